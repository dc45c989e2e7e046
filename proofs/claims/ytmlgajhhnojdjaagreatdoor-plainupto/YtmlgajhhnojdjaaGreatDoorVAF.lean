import Derived.Shelf.Strconv.ParseIntPublic10
import Derived.Shelf.Strings.Cut
import Derived.Shelf.Strings.Split
import Derived.Test.YtmlgajhhnojdjaaGreatDoorVAE
import Derived.Stop.IfaceNil
namespace Go.Proofs
open Go.Shelf
def Tryz.AF:Go.Shelf.Ren:=⟨fun|103=>228|210=>239|206=>244|n=>n,fun|9=>9|4=>4|24=>159|3=>3|n=>n,fun|n=>n⟩
theorem Tryz.Lx:Go.Proofs.Lays.n103 Tryz.prog Tryz.AF:={
 mixed:=by kernel_rfl
 f103:=Tryz.func228.trans (congrArg some (by kernel_rfl))
 f206:=Tryz.func244.trans (congrArg some (by kernel_rfl))
 f210:=Tryz.func239.trans (congrArg some (by kernel_rfl))
 t3:=Tryz.underlying3
 a3:=Tryz.isAgg3
 z3:=Tryz.sizeOf3
 v3:=Tryz.zeroValue3
 t4:=Tryz.underlying4
 a4:=Tryz.isAgg4
 z4:=Tryz.sizeOf4
 v4:=Tryz.zeroValue4
 t9:=Tryz.underlying9
 a9:=Tryz.isAgg9
 z9:=Tryz.sizeOf9
 v9:=Tryz.zeroValue9
 t24:=Tryz.underlying159
 a24:=Tryz.isAgg159
 z24:=Tryz.sizeOf159
 v24:=Tryz.zeroValue159}
open Go.RowKit in
theorem Tryz.strings_CutPrefix (s p:ByteArray)(w:World):
  Calls Tryz.prog 228 #[.string s,.string p] w fun e w'=>e=.returned (.tuple #[.string ⟨(Lib.trimPrefix s.data.toList p.data.toList).toArray⟩,.bool (Lib.hasPrefix s.data.toList p.data.toList)])/\w'=w:=Any.strings_CutPrefix Tryz.Lx s p w
def Tryz.yG:Go.Shelf.Ren:=⟨fun|174=>240|247=>245|245=>246|287=>247|279=>248|280=>249|281=>250|282=>251|321=>252|322=>253|316=>254|171=>134|205=>255|243=>183|246=>182|283=>212|284=>213|285=>214|286=>215|129=>232|317=>231|318=>233|319=>234|320=>235|337=>242|338=>243|n=>n,fun|9=>9|3=>3|2=>2|75=>221|85=>305|4=>4|167=>315|5=>5|53=>281|175=>316|46=>292|168=>318|37=>93|0=>0|210=>323|21=>21|127=>257|145=>327|143=>325|171=>90|173=>284|212=>299|51=>300|20=>20|213=>301|232=>313|233=>314|80=>82|n=>n,fun|15=>9|16=>10|17=>4|18=>7|19=>8|n=>n⟩
theorem Tryz.th:Go.Proofs.LaysC.n174 Tryz.prog Tryz.yG:={
 mixed:=by kernel_rfl
 f129:=Tryz.func232.trans (congrArg some (by kernel_rfl))
 f171:=Tryz.func134.trans (congrArg some (by kernel_rfl))
 f174:=Tryz.func240.trans (congrArg some (by kernel_rfl))
 f205:=Tryz.func255.trans (congrArg some (by kernel_rfl))
 f243:=Tryz.func183.trans (congrArg some (by kernel_rfl))
 f245:=Tryz.func246.trans (congrArg some (by kernel_rfl))
 f246:=Tryz.func182.trans (congrArg some (by kernel_rfl))
 f247:=Tryz.func245.trans (congrArg some (by kernel_rfl))
 f279:=Tryz.func248.trans (congrArg some (by kernel_rfl))
 f280:=Tryz.func249.trans (congrArg some (by kernel_rfl))
 f281:=Tryz.func250.trans (congrArg some (by kernel_rfl))
 f282:=Tryz.func251.trans (congrArg some (by kernel_rfl))
 f283:=Tryz.func212.trans (congrArg some (by kernel_rfl))
 f284:=Tryz.func213.trans (congrArg some (by kernel_rfl))
 f285:=Tryz.func214.trans (congrArg some (by kernel_rfl))
 f286:=Tryz.func215.trans (congrArg some (by kernel_rfl))
 f287:=Tryz.func247.trans (congrArg some (by kernel_rfl))
 f316:=Tryz.func254.trans (congrArg some (by kernel_rfl))
 f317:=Tryz.func231.trans (congrArg some (by kernel_rfl))
 f318:=Tryz.func233.trans (congrArg some (by kernel_rfl))
 f319:=Tryz.func234.trans (congrArg some (by kernel_rfl))
 f320:=Tryz.func235.trans (congrArg some (by kernel_rfl))
 f321:=Tryz.func252.trans (congrArg some (by kernel_rfl))
 f322:=Tryz.func253.trans (congrArg some (by kernel_rfl))
 f337:=Tryz.func242.trans (congrArg some (by kernel_rfl))
 f338:=Tryz.func243.trans (congrArg some (by kernel_rfl))
 t0:=Tryz.underlying0
 a0:=Tryz.isAgg0
 z0:=Tryz.sizeOf0
 v0:=Tryz.zeroValue0
 t2:=Tryz.underlying2
 a2:=Tryz.isAgg2
 z2:=Tryz.sizeOf2
 v2:=Tryz.zeroValue2
 t3:=Tryz.underlying3
 a3:=Tryz.isAgg3
 z3:=Tryz.sizeOf3
 v3:=Tryz.zeroValue3
 t4:=Tryz.underlying4
 a4:=Tryz.isAgg4
 z4:=Tryz.sizeOf4
 v4:=Tryz.zeroValue4
 t5:=Tryz.underlying5
 a5:=Tryz.isAgg5
 z5:=Tryz.sizeOf5
 v5:=Tryz.zeroValue5
 t9:=Tryz.underlying9
 a9:=Tryz.isAgg9
 z9:=Tryz.sizeOf9
 v9:=Tryz.zeroValue9
 t20:=Tryz.underlying20
 a20:=Tryz.isAgg20
 z20:=Tryz.sizeOf20
 v20:=Tryz.zeroValue20
 t21:=Tryz.underlying21
 a21:=Tryz.isAgg21
 z21:=Tryz.sizeOf21
 v21:=Tryz.zeroValue21
 t37:=Tryz.underlying93
 a37:=Tryz.isAgg93
 z37:=Tryz.sizeOf93
 v37:=Tryz.zeroValue93
 t46:=Tryz.underlying292
 a46:=Tryz.isAgg292
 z46:=Tryz.sizeOf292
 v46:=Tryz.zeroValue292
 t51:=Tryz.underlying300
 a51:=Tryz.isAgg300
 z51:=Tryz.sizeOf300
 v51:=Tryz.zeroValue300
 t53:=Tryz.underlying281
 a53:=Tryz.isAgg281
 z53:=Tryz.sizeOf281
 v53:=Tryz.zeroValue281
 t75:=Tryz.underlying221
 a75:=Tryz.isAgg221
 z75:=Tryz.sizeOf221
 v75:=Tryz.zeroValue221
 t85:=Tryz.underlying305
 a85:=Tryz.isAgg305
 z85:=Tryz.sizeOf305
 v85:=Tryz.zeroValue305
 t127:=Tryz.underlying257
 a127:=Tryz.isAgg257
 z127:=Tryz.sizeOf257
 v127:=Tryz.zeroValue257
 t143:=Tryz.underlying325
 a143:=Tryz.isAgg325
 z143:=Tryz.sizeOf325
 v143:=Tryz.zeroValue325
 t145:=Tryz.underlying327
 a145:=Tryz.isAgg327
 z145:=Tryz.sizeOf327
 v145:=Tryz.zeroValue327
 t167:=Tryz.underlying315
 a167:=Tryz.isAgg315
 z167:=Tryz.sizeOf315
 v167:=Tryz.zeroValue315
 t168:=Tryz.underlying318
 a168:=Tryz.isAgg318
 z168:=Tryz.sizeOf318
 v168:=Tryz.zeroValue318
 t171:=Tryz.underlying90
 a171:=Tryz.isAgg90
 z171:=Tryz.sizeOf90
 v171:=Tryz.zeroValue90
 t173:=Tryz.underlying284
 a173:=Tryz.isAgg284
 z173:=Tryz.sizeOf284
 v173:=Tryz.zeroValue284
 t175:=Tryz.underlying316
 a175:=Tryz.isAgg316
 z175:=Tryz.sizeOf316
 v175:=Tryz.zeroValue316
 t210:=Tryz.underlying323
 a210:=Tryz.isAgg323
 z210:=Tryz.sizeOf323
 v210:=Tryz.zeroValue323
 t212:=Tryz.underlying299
 a212:=Tryz.isAgg299
 z212:=Tryz.sizeOf299
 v212:=Tryz.zeroValue299
 t213:=Tryz.underlying301
 a213:=Tryz.isAgg301
 z213:=Tryz.sizeOf301
 t232:=Tryz.underlying313
 a232:=Tryz.isAgg313
 z232:=Tryz.sizeOf313
 v232:=Tryz.zeroValue313
 t233:=Tryz.underlying314
 a233:=Tryz.isAgg314
 z233:=Tryz.sizeOf314
 v233:=Tryz.zeroValue314
 g15:=by kernel_rfl
 g16:=by kernel_rfl
 g17:=by kernel_rfl
 g18:=by kernel_rfl
 g19:=by kernel_rfl
 t80:=Tryz.underlying82
 a80:=Tryz.isAgg82
 z80:=Tryz.sizeOf82
 v80:=Tryz.zeroValue82
 i0:=by kernel_rfl
 i2:=by kernel_rfl
 i3:=by kernel_rfl
 i4:=by kernel_rfl
 i5:=by kernel_rfl
 i9:=by kernel_rfl
 i20:=by kernel_rfl
 i21:=by kernel_rfl
 i37:=by kernel_rfl
 i46:=by kernel_rfl
 i51:=by kernel_rfl
 i53:=by kernel_rfl
 i75:=by kernel_rfl
 i80:=by kernel_rfl
 i85:=by kernel_rfl
 i127:=by kernel_rfl
 i143:=by kernel_rfl
 i145:=by kernel_rfl
 i167:=by kernel_rfl
 i168:=by kernel_rfl
 i171:=by kernel_rfl
 i173:=by kernel_rfl
 i175:=by kernel_rfl
 i210:=by kernel_rfl
 i212:=by kernel_rfl
 i232:=by kernel_rfl
 i233:=by kernel_rfl
 m15:=by kernel_rfl
 m16:=by kernel_rfl
 m17:=by kernel_rfl
 m18:=by kernel_rfl
 m19:=by kernel_rfl
 c0:=by kernel_rfl
 c2:=by kernel_rfl
 c3:=by kernel_rfl
 c4:=by kernel_rfl
 c5:=by kernel_rfl
 c9:=by kernel_rfl
 c20:=by kernel_rfl
 c21:=by kernel_rfl
 c37:=by kernel_rfl
 c46:=by kernel_rfl
 c51:=by kernel_rfl
 c53:=by kernel_rfl
 c75:=by kernel_rfl
 c80:=by kernel_rfl
 c85:=by kernel_rfl
 c127:=by kernel_rfl
 c143:=by kernel_rfl
 c145:=by kernel_rfl
 c167:=by kernel_rfl
 c168:=by kernel_rfl
 c171:=by kernel_rfl
 c173:=by kernel_rfl
 c175:=by kernel_rfl
 c210:=by kernel_rfl
 c212:=by kernel_rfl
 c213:=by kernel_rfl
 c232:=by kernel_rfl
 c233:=by kernel_rfl}
open Go.RowKit in
theorem Tryz.strconv_ParseInt_10_at64_ok (s:ByteArray)(Ii:s.size<=9223372036854775806)(v:Int)(h:Lib.parseIntB 64 s.data.toList=.ok v)(w:World):
  Calls Tryz.prog 240 #[.string s,.int .i64 10,.int .i64 64] w fun e w'=>e=.returned (.tuple #[.int .i64 v,.nilIface])/\(w'=w\/∃t,w'=Lib.bytesWorld w 5 t):=Any.strconv_ParseInt_10_at64_ok Tryz.th s Ii v h w
open Go.RowKit in
theorem Tryz.strconv_ParseInt_10_at64_syntax (s:ByteArray)(hlim:s.size<=281474976710656)(h:Lib.parseIntB 64 s.data.toList=.«syntax»)(ev:Value)(w:World)(hv:w.cell? ⟨9,0,none⟩=some ev)(hev:ev=.nilIface\/∃te pe,ev=.iface te pe):
  Calls Tryz.prog 240 #[.string s,.int .i64 10,.int .i64 64] w fun e w'=>∃N,e=.returned (.tuple #[.int .i64 (0),.iface 318 (.pointer (some ⟨N,0,none⟩))])/\w.heap.size<=N/\w'.heap[N]?=some (.cells #[.string ⟨#[80,97,114,115,101,73,110,116]⟩,.string s,ev] 323 (0,0))/\Below w.heap.size w w':=Any.strconv_ParseInt_10_at64_syntax Tryz.th s hlim h ev w hv hev
open Go.RowKit in
theorem Tryz.strconv_ParseInt_10_at64_range (s:ByteArray)(hlim:s.size<=281474976710656)(h:Lib.parseIntB 64 s.data.toList=.range)(ev:Value)(w:World)(hv:w.cell? ⟨10,0,none⟩=some ev)(hev:ev=.nilIface\/∃te pe,ev=.iface te pe):
  Calls Tryz.prog 240 #[.string s,.int .i64 10,.int .i64 64] w fun e w'=>∃N,e=.returned (.tuple #[.int .i64 (Lib.intSat 64 s.data.toList),.iface 318 (.pointer (some ⟨N,0,none⟩))])/\w.heap.size<=N/\w'.heap[N]?=some (.cells #[.string ⟨#[80,97,114,115,101,73,110,116]⟩,.string s,ev] 323 (0,0))/\Below w.heap.size w w':=Any.strconv_ParseInt_10_at64_range Tryz.th s hlim h ev w hv hev
def Tryz.AH:Go.Shelf.Ren:=⟨fun|145=>230|220=>241|219=>194|217=>222|225=>223|224=>224|267=>225|266=>236|314=>237|n=>n,fun|9=>9|4=>4|59=>296|3=>3|5=>5|46=>292|146=>303|51=>300|n=>n,fun|1=>3|n=>n⟩
theorem Tryz.Lz:Go.Proofs.Lays.n145 Tryz.prog Tryz.AH:={
 mixed:=by kernel_rfl
 f145:=Tryz.func230.trans (congrArg some (by kernel_rfl))
 f217:=Tryz.func222.trans (congrArg some (by kernel_rfl))
 f219:=Tryz.func194.trans (congrArg some (by kernel_rfl))
 f220:=Tryz.func241.trans (congrArg some (by kernel_rfl))
 f224:=Tryz.func224.trans (congrArg some (by kernel_rfl))
 f225:=Tryz.func223.trans (congrArg some (by kernel_rfl))
 f266:=Tryz.func236.trans (congrArg some (by kernel_rfl))
 f267:=Tryz.func225.trans (congrArg some (by kernel_rfl))
 f314:=Tryz.func237.trans (congrArg some (by kernel_rfl))
 t3:=Tryz.underlying3
 a3:=Tryz.isAgg3
 z3:=Tryz.sizeOf3
 v3:=Tryz.zeroValue3
 t4:=Tryz.underlying4
 a4:=Tryz.isAgg4
 z4:=Tryz.sizeOf4
 v4:=Tryz.zeroValue4
 t5:=Tryz.underlying5
 a5:=Tryz.isAgg5
 z5:=Tryz.sizeOf5
 v5:=Tryz.zeroValue5
 t9:=Tryz.underlying9
 a9:=Tryz.isAgg9
 z9:=Tryz.sizeOf9
 v9:=Tryz.zeroValue9
 t46:=Tryz.underlying292
 a46:=Tryz.isAgg292
 z46:=Tryz.sizeOf292
 v46:=Tryz.zeroValue292
 t51:=Tryz.underlying300
 a51:=Tryz.isAgg300
 z51:=Tryz.sizeOf300
 v51:=Tryz.zeroValue300
 t59:=Tryz.underlying296
 a59:=Tryz.isAgg296
 z59:=Tryz.sizeOf296
 v59:=Tryz.zeroValue296
 t146:=Tryz.underlying303
 a146:=Tryz.isAgg303
 z146:=Tryz.sizeOf303
 v146:=Tryz.zeroValue303
 g1:=by kernel_rfl}
open Go.RowKit Go.Lib in
theorem Tryz.strings_Cut (s sep:ByteArray)(m:Int)(w:World)(hs:s.size<4294967281)(hm:w.cell? ⟨3,0,none⟩=some (.int .i64 m)):
  Calls Tryz.prog 230 #[.string s,.string sep] w fun e w'=>e=.returned (.tuple #[.string ⟨(Lib.cut s.data.toList sep.data.toList).1.toArray⟩,.string ⟨(Lib.cut s.data.toList sep.data.toList).2.1.toArray⟩,.bool (Lib.cut s.data.toList sep.data.toList).2.2])/\∃n,w'=w.drewN n:=Any.strings_Cut Tryz.Lz s sep m w hs hm
def Tryz.AG:Go.Shelf.Ren:=⟨fun|138=>114|195=>160|218=>161|143=>162|219=>194|217=>222|225=>223|224=>224|267=>225|266=>236|314=>237|n=>n,fun|9=>9|3=>3|4=>4|5=>5|0=>0|46=>292|146=>303|51=>300|n=>n,fun|1=>3|n=>n⟩
theorem Tryz.Ly:Go.Proofs.Lays.n138 Tryz.prog Tryz.AG:={
 mixed:=by kernel_rfl
 f138:=Tryz.func114.trans (congrArg some (by kernel_rfl))
 f143:=Tryz.func162.trans (congrArg some (by kernel_rfl))
 f195:=Tryz.func160.trans (congrArg some (by kernel_rfl))
 f217:=Tryz.func222.trans (congrArg some (by kernel_rfl))
 f218:=Tryz.func161.trans (congrArg some (by kernel_rfl))
 f219:=Tryz.func194.trans (congrArg some (by kernel_rfl))
 f224:=Tryz.func224.trans (congrArg some (by kernel_rfl))
 f225:=Tryz.func223.trans (congrArg some (by kernel_rfl))
 f266:=Tryz.func236.trans (congrArg some (by kernel_rfl))
 f267:=Tryz.func225.trans (congrArg some (by kernel_rfl))
 f314:=Tryz.func237.trans (congrArg some (by kernel_rfl))
 t0:=Tryz.underlying0
 a0:=Tryz.isAgg0
 z0:=Tryz.sizeOf0
 v0:=Tryz.zeroValue0
 t3:=Tryz.underlying3
 a3:=Tryz.isAgg3
 z3:=Tryz.sizeOf3
 v3:=Tryz.zeroValue3
 t4:=Tryz.underlying4
 a4:=Tryz.isAgg4
 z4:=Tryz.sizeOf4
 v4:=Tryz.zeroValue4
 t5:=Tryz.underlying5
 a5:=Tryz.isAgg5
 z5:=Tryz.sizeOf5
 v5:=Tryz.zeroValue5
 t9:=Tryz.underlying9
 a9:=Tryz.isAgg9
 z9:=Tryz.sizeOf9
 v9:=Tryz.zeroValue9
 t46:=Tryz.underlying292
 a46:=Tryz.isAgg292
 z46:=Tryz.sizeOf292
 v46:=Tryz.zeroValue292
 t51:=Tryz.underlying300
 a51:=Tryz.isAgg300
 z51:=Tryz.sizeOf300
 v51:=Tryz.zeroValue300
 t146:=Tryz.underlying303
 a146:=Tryz.isAgg303
 z146:=Tryz.sizeOf303
 v146:=Tryz.zeroValue303
 g1:=by kernel_rfl}
open Go.RowKit Go.Lib in
theorem Tryz.strings_Count_one (s:ByteArray)(c:UInt8)(w:World):
  Calls Tryz.prog 114 #[.string s,.string ⟨#[c]⟩] w fun e w'=>e=.returned (.int .i64 (Lib.countByte s.data.toList c))/\w'=w:=Any.strings_Count_one Tryz.Ly s c w
def Tryz.AI:Go.Shelf.Ren:=⟨fun|146=>116|221=>166|268=>200|138=>114|143=>162|195=>160|197=>227|218=>161|219=>194|260=>238|217=>222|225=>223|224=>224|267=>225|266=>236|314=>237|n=>n,fun|9=>9|31=>34|3=>3|4=>4|0=>0|105=>293|21=>21|5=>5|46=>292|119=>308|139=>311|138=>310|146=>303|51=>300|n=>n,fun|1=>3|3=>5|4=>6|n=>n⟩
theorem Tryz.LA:Go.Proofs.Lays.n146 Tryz.prog Tryz.AI:={
 mixed:=by kernel_rfl
 f138:=Tryz.func114.trans (congrArg some (by kernel_rfl))
 f143:=Tryz.func162.trans (congrArg some (by kernel_rfl))
 f146:=Tryz.func116.trans (congrArg some (by kernel_rfl))
 f195:=Tryz.func160.trans (congrArg some (by kernel_rfl))
 f197:=Tryz.func227.trans (congrArg some (by kernel_rfl))
 f217:=Tryz.func222.trans (congrArg some (by kernel_rfl))
 f218:=Tryz.func161.trans (congrArg some (by kernel_rfl))
 f219:=Tryz.func194.trans (congrArg some (by kernel_rfl))
 f221:=Tryz.func166.trans (congrArg some (by kernel_rfl))
 f224:=Tryz.func224.trans (congrArg some (by kernel_rfl))
 f225:=Tryz.func223.trans (congrArg some (by kernel_rfl))
 f260:=Tryz.func238.trans (congrArg some (by kernel_rfl))
 f266:=Tryz.func236.trans (congrArg some (by kernel_rfl))
 f267:=Tryz.func225.trans (congrArg some (by kernel_rfl))
 f268:=Tryz.func200.trans (congrArg some (by kernel_rfl))
 f314:=Tryz.func237.trans (congrArg some (by kernel_rfl))
 t0:=Tryz.underlying0
 a0:=Tryz.isAgg0
 z0:=Tryz.sizeOf0
 v0:=Tryz.zeroValue0
 t3:=Tryz.underlying3
 a3:=Tryz.isAgg3
 z3:=Tryz.sizeOf3
 v3:=Tryz.zeroValue3
 t4:=Tryz.underlying4
 a4:=Tryz.isAgg4
 z4:=Tryz.sizeOf4
 v4:=Tryz.zeroValue4
 t5:=Tryz.underlying5
 a5:=Tryz.isAgg5
 z5:=Tryz.sizeOf5
 v5:=Tryz.zeroValue5
 t9:=Tryz.underlying9
 a9:=Tryz.isAgg9
 z9:=Tryz.sizeOf9
 v9:=Tryz.zeroValue9
 t21:=Tryz.underlying21
 a21:=Tryz.isAgg21
 z21:=Tryz.sizeOf21
 v21:=Tryz.zeroValue21
 t31:=Tryz.underlying34
 a31:=Tryz.isAgg34
 z31:=Tryz.sizeOf34
 v31:=Tryz.zeroValue34
 t46:=Tryz.underlying292
 a46:=Tryz.isAgg292
 z46:=Tryz.sizeOf292
 v46:=Tryz.zeroValue292
 t51:=Tryz.underlying300
 a51:=Tryz.isAgg300
 z51:=Tryz.sizeOf300
 v51:=Tryz.zeroValue300
 t105:=Tryz.underlying293
 a105:=Tryz.isAgg293
 z105:=Tryz.sizeOf293
 v105:=Tryz.zeroValue293
 t119:=Tryz.underlying308
 a119:=Tryz.isAgg308
 z119:=Tryz.sizeOf308
 t138:=Tryz.underlying310
 a138:=Tryz.isAgg310
 z138:=Tryz.sizeOf310
 v138:=Tryz.zeroValue310
 t139:=Tryz.underlying311
 a139:=Tryz.isAgg311
 z139:=Tryz.sizeOf311
 v139:=Tryz.zeroValue311
 t146:=Tryz.underlying303
 a146:=Tryz.isAgg303
 z146:=Tryz.sizeOf303
 v146:=Tryz.zeroValue303
 g1:=by kernel_rfl
 g3:=by kernel_rfl
 g4:=by kernel_rfl}
open Go.RowKit Go.Lib in
theorem Tryz.strings_Split (s sep:ByteArray)(m:Int)(w:World)(hs:s.size<4294967281)(hm:w.cell? ⟨3,0,none⟩=some (.int .i64 m))(h1:1<=sep.size):
  Calls Tryz.prog 116 #[.string s,.string sep] w fun e w'=>
   e=.returned (.slice (some ⟨w.heap.size,0,none⟩) (Lib.countB s sep+1) (Lib.countB s sep+1))/\w'=w.alloc (.cells ((Lib.splitB sep 0 (Lib.countB s sep) s).map Value.string).toArray 9):=Any.strings_Split Tryz.LA (by kernel_rfl) s sep m w hs hm h1
def Tryz.AJ:Go.Shelf.Ren:=⟨fun|147=>195|221=>166|268=>200|138=>114|143=>162|195=>160|197=>227|218=>161|219=>194|260=>238|217=>222|225=>223|224=>224|267=>225|266=>236|314=>237|n=>n,fun|9=>9|3=>3|31=>34|4=>4|0=>0|105=>293|21=>21|5=>5|46=>292|119=>308|139=>311|138=>310|146=>303|51=>300|n=>n,fun|1=>3|3=>5|4=>6|n=>n⟩
theorem Tryz.LB:Go.Proofs.Lays.n147 Tryz.prog Tryz.AJ:={
 mixed:=by kernel_rfl
 f138:=Tryz.func114.trans (congrArg some (by kernel_rfl))
 f143:=Tryz.func162.trans (congrArg some (by kernel_rfl))
 f147:=Tryz.func195.trans (congrArg some (by kernel_rfl))
 f195:=Tryz.func160.trans (congrArg some (by kernel_rfl))
 f197:=Tryz.func227.trans (congrArg some (by kernel_rfl))
 f217:=Tryz.func222.trans (congrArg some (by kernel_rfl))
 f218:=Tryz.func161.trans (congrArg some (by kernel_rfl))
 f219:=Tryz.func194.trans (congrArg some (by kernel_rfl))
 f221:=Tryz.func166.trans (congrArg some (by kernel_rfl))
 f224:=Tryz.func224.trans (congrArg some (by kernel_rfl))
 f225:=Tryz.func223.trans (congrArg some (by kernel_rfl))
 f260:=Tryz.func238.trans (congrArg some (by kernel_rfl))
 f266:=Tryz.func236.trans (congrArg some (by kernel_rfl))
 f267:=Tryz.func225.trans (congrArg some (by kernel_rfl))
 f268:=Tryz.func200.trans (congrArg some (by kernel_rfl))
 f314:=Tryz.func237.trans (congrArg some (by kernel_rfl))
 t0:=Tryz.underlying0
 a0:=Tryz.isAgg0
 z0:=Tryz.sizeOf0
 v0:=Tryz.zeroValue0
 t3:=Tryz.underlying3
 a3:=Tryz.isAgg3
 z3:=Tryz.sizeOf3
 v3:=Tryz.zeroValue3
 t4:=Tryz.underlying4
 a4:=Tryz.isAgg4
 z4:=Tryz.sizeOf4
 v4:=Tryz.zeroValue4
 t5:=Tryz.underlying5
 a5:=Tryz.isAgg5
 z5:=Tryz.sizeOf5
 v5:=Tryz.zeroValue5
 t9:=Tryz.underlying9
 a9:=Tryz.isAgg9
 z9:=Tryz.sizeOf9
 v9:=Tryz.zeroValue9
 t21:=Tryz.underlying21
 a21:=Tryz.isAgg21
 z21:=Tryz.sizeOf21
 v21:=Tryz.zeroValue21
 t31:=Tryz.underlying34
 a31:=Tryz.isAgg34
 z31:=Tryz.sizeOf34
 v31:=Tryz.zeroValue34
 t46:=Tryz.underlying292
 a46:=Tryz.isAgg292
 z46:=Tryz.sizeOf292
 v46:=Tryz.zeroValue292
 t51:=Tryz.underlying300
 a51:=Tryz.isAgg300
 z51:=Tryz.sizeOf300
 v51:=Tryz.zeroValue300
 t105:=Tryz.underlying293
 a105:=Tryz.isAgg293
 z105:=Tryz.sizeOf293
 v105:=Tryz.zeroValue293
 t119:=Tryz.underlying308
 a119:=Tryz.isAgg308
 z119:=Tryz.sizeOf308
 t138:=Tryz.underlying310
 a138:=Tryz.isAgg310
 z138:=Tryz.sizeOf310
 v138:=Tryz.zeroValue310
 t139:=Tryz.underlying311
 a139:=Tryz.isAgg311
 z139:=Tryz.sizeOf311
 v139:=Tryz.zeroValue311
 t146:=Tryz.underlying303
 a146:=Tryz.isAgg303
 z146:=Tryz.sizeOf303
 v146:=Tryz.zeroValue303
 g1:=by kernel_rfl
 g3:=by kernel_rfl
 g4:=by kernel_rfl}
open Go.RowKit Go.Lib in
theorem Tryz.strings_SplitN (s sep:ByteArray)(n:Nat)(m:Int)(w:World)(hs:s.size<4294967281)(hm:w.cell? ⟨3,0,none⟩=some (.int .i64 m))(h1:1<=sep.size)(hn:1<=n)(hn63:n<=9223372036854775807):
  Calls Tryz.prog 195 #[.string s,.string sep,.int .i64 n] w fun e w'=>
   e=.returned (.slice (some ⟨w.heap.size,0,none⟩) (Lib.splitB sep 0 (min n (s.size+1)-1) s).length (min n (s.size+1)))/\w'=w.alloc (.cells (Lib.cellsOf (Lib.splitB sep 0 (min n (s.size+1)-1) s) (min n (s.size+1))) 9):=Any.strings_SplitN Tryz.LB (by kernel_rfl) s sep n m w hs hm h1 hn hn63
end Go.Proofs
namespace Go.Proofs.YtmlgajhhnojdjaaGreatDoor
namespace PrjG
open Go Go.RowKit Sq PrjF
structure Env (w:World):Prop where
 C8:mn w
 types:o7 w
 FD:∃m:Int,w.cell? ⟨3,0,none⟩=some (.int .i64 m)
 Y4:∃te pe,w.cell? ⟨9,0,none⟩=some (.iface te pe)
 Y3:∃te pe,w.cell? ⟨10,0,none⟩=some (.iface te pe)
 size:11<=w.heap.size
theorem Env.below {w w':World}{B:Nat}(h:Env w)(hb:Below B w w')(hB:11<=B):Env w':=by
 obtain⟨h1,h2,⟨m,h3⟩,⟨a,b,h4⟩,⟨c,d,h5⟩,h6⟩:=h;have hc:∀(k o:Nat),k<11->w'.cell? ⟨k,o,none⟩=w.cell? ⟨k,o,none⟩:=fun k o hk=>hb.cell (p:=⟨k,o,none⟩) (by show k<B;omega)
 refine⟨fun j v hv=> ?_,fun j v hv=> ?_,⟨m,?_⟩,⟨a,b,?_⟩,⟨c,d,?_⟩,jS h6 hb.size⟩
 ·rw[hc _ _ (by decide)];exact h1 j v hv
 ·rw[hc _ _ (by decide)];exact h2 j v hv
 ·rw[hc _ _ (by decide)];exact h3
 ·rw[hc _ _ (by decide)];exact h4
 ·rw[hc _ _ (by decide)];exact h5
theorem Env.on {w w':World}(h:Env w)(hb:Below w.heap.size w w'):Env w':=h.below hb h.size
theorem A9 (M:Nat):∀(l:B) (acc u:Nat),Lib.parseUintM M acc l=.ok u->acc<=u
 |[],acc,u,h=>by simp[Lib.parseUintM]at h;omega
 |c::r,acc,u,h=>by
  rw[Lib.parseUintM]at h;split at h
  ·split at h
   ·cases h
   ·split at h
    ·cases h
    ·have:=A9 M r _ u h;omega
  ·cases h
theorem xP (M:Nat)(hM:1000000000<=M):∀(l:B) (acc:Nat),acc<=1000000000->
  (∀m,cy acc l=some m->∃u:Nat,m=u/\Lib.parseUintM M acc l=.ok u/\u<=1000000000)/\(cy acc l=none->∀u,Lib.parseUintM M acc l=.ok u->1000000000<u)
 |[],acc,ha=>by
  refine⟨fun m h=>⟨acc,?_,rfl,ha⟩,fun h=>by simp[cy]at h⟩;simp[cy]at h;omega
 |c::r,acc,ha=>by
  rw[cy,Lib.parseUintM];by_cases hd:digit c=true
  ·have ET:=hd;simp only[digit,Bool.and_eq_true,decide_eq_true_eq]at ET;have N7:¬1844674407370955162<=acc:=by omega
   rw[jb hd,jb ET,ja N7];have Qo:10*(acc:Int)+((c.toNat:Int)-48)=((acc*10+(c.toNat-48):Nat):Int):=by omega
   by_cases Mz:10*(acc:Int)+((c.toNat:Int)-48)>1000000000
   ·rw[jb Mz];refine⟨fun m h=>(by cases h),fun _ u hu=> ?_⟩;split at hu
    ·cases hu
    ·have:=A9 M r _ u hu;omega
   ·have Xy:¬M<acc*10+(c.toNat-48):=by omega
    rw[ja Mz,ja Xy,Qo];exact xP M hM r (acc*10+(c.toNat-48)) (by omega)
  ·have ET:¬(48<=c.toNat/\c.toNat<=57):=fun e=>hd (by simp[digit,e.1,e.2])
   rw[ja hd,ja ET];exact⟨fun m h=>(by cases h),fun _ u hu=>(by cases hu)⟩
theorem pO {c:UInt8}{r:B}(hd:digit c=true):(∀m,cy 0 (c::r)=some m->Lib.parseIntB 64 (c::r)=.ok m/\m<=1000000000)/\(cy 0 (c::r)=none->∀v,Lib.parseIntB 64 (c::r)=.ok v->1000000000<v):=by
 have ET:=hd;simp only[digit,Bool.and_eq_true,decide_eq_true_eq]at ET;have hp:=xP (2^64-1) (by decide) (c::r) 0 (by omega);have he:Lib.parseIntB 64 (c::r)=match Lib.parseUintM (2^64-1) 0 (c::r)with
   | .syntax=> .syntax| .range=> .range
   | .ok u=>if 2^63<=u then .range else .ok (u:Int):=by
  have h1:¬c.toNat=43:=by omega
  have h2:¬c.toNat=45:=by omega
  simp only[Lib.parseIntB,Lib.parseUintB,h1,h2,or_self,not_false_eq_true,true_and,false_and,if_false];rw[ja (by simp)];rfl
 rw[he];constructor
 ·intro m hm;obtain⟨u,rfl,hu,hl⟩:=hp.1 m hm;rw[hu];simp only;rw[ja (by omega)];exact⟨rfl,by omega⟩
 ·intro hn v hv;cases hu:Lib.parseUintM (2^64-1) 0 (c::r)with
  | «syntax» =>rw[hu]at hv;cases hv
  |range=>rw[hu]at hv;cases hv
  |ok u=>
   rw[hu]at hv;have:=hp.2 hn u hu;simp only at hv;split at hv
   ·cases hv
   ·cases hv;omega
theorem Ak:Tryz.prog.isIface 221=true:=by kernel_rfl
theorem Ec {a b:Int}{x y:Bool}(h:a=b)(h':x=y):Ending.returned (.tuple #[.int .i64 a,.bool x])=.returned (.tuple #[.int .i64 b,.bool y]):=by rw[h,h']
set_option maxRecDepth 20000 in
theorem gI (l:B)(w:World)(h:l.length<=1099511627776)(E:Env w):
  Calls Tryz.prog 229 #[.string (bs l)] w fun e w'=>e=.returned (.tuple #[.int .i64 ((av l).getD 0),.bool (av l).isSome])/\Below w.heap.size w w':=by
 have ht:=bp l;cases l with
 |nil=>
  go_enter Tryz.func229,Tryz.ntmps229
  go_wp2
  go_ret2
  exact⟨rfl,Below.refl _ _⟩
 |cons c r=>
  have c8:((c::r:B)==[])=false:=rfl;have gP:(bs (c::r)).size=r.length+1:=by rw[cu];rfl
  by_cases hd:digit c=true
  ·have ET:=hd;simp only[digit,Bool.and_eq_true,decide_eq_true_eq]at ET;by_cases h0:c=48/\(c::r)≠[48]
   ·have e:av (c::r)=none:=by rw[av,ja (fun e=>e.2 h0)]
    rw[e];have JK:((c.toNat:Int)==48)=true:=by rw[h0.1];rfl
    have hz:((c::r:B)==[48])=false:=by simpa using h0.2
    clear h0 hd e;go_enter Tryz.func229,Tryz.ntmps229
    go_wp2
    go_ret2
    exact⟨rfl,Below.refl _ _⟩
   ·have e:av (c::r)=cy 0 (c::r):=by rw[av,jb ⟨hd,h0⟩]
    have hq:((c.toNat:Int)==48&& !((c::r:B)==[48]))=false:=by
     rw[Bool.and_eq_false_iff];by_cases JK:c=48
     ·right;have:(c::r)=[48]:=Decidable.not_not.mp (fun hx=>h0 ⟨JK,hx⟩);rw[this];rfl
     ·left;rw[jZ];intro hx;exact JK ((rj c 48 (by omega)).mpr (by omega))
    obtain⟨yu,MH⟩:=pO (r:=r) hd;have hlen:(c::r).length<=281474976710656:=by omega
    have JS:(bs (c::r)).data.toList=c::r:=by simp[bs]
    obtain⟨te,pe,RD⟩:=E.Y4;obtain⟨te',pe',Rv⟩:=E.Y3;have K:Calls Tryz.prog 240 #[.string (bs (c::r)),.int .i64 10,.int .i64 64] w fun e w'=>∃(n:Int) (ev:Value),e=.returned (.tuple #[.int .i64 n,ev])/\Below w.heap.size w w'/\((ev=.nilIface/\((cy 0 (c::r)=some n/\n<=1000000000)\/(cy 0 (c::r)=none/\1000000000<n)))\/(cy 0 (c::r)=none/\∃t p,ev=.iface t p)):=by
     cases vu:Lib.parseIntB 64 (c::r)with
     |ok v=>
      refine(Tryz.strconv_ParseInt_10_at64_ok (bs (c::r)) (by rw[gP];simp at h;omega) v (by rw[JS];exact vu) w).mono ?_;rintro e w' ⟨rfl,hw⟩;refine⟨v,.nilIface,rfl,?_,.inl ⟨rfl,?_⟩⟩
      ·rcases hw with rfl|⟨t,rfl⟩
       ·exact Below.refl _ _
       ·exact Lib.bytesWorld_below _ _ _
      ·cases hn:cy 0 (c::r)with
       |none=>exact .inr ⟨rfl,MH hn v vu⟩
       |some m=>
        obtain⟨h1,h2⟩:=yu m hn;rw[vu]at h1;cases h1
        exact .inl ⟨rfl,h2⟩
     | «syntax» =>
      refine(Tryz.strconv_ParseInt_10_at64_syntax (bs (c::r)) (by rw[cu];exact hlen) (by rw[JS];exact vu) _ w RD (.inr ⟨te,pe,rfl⟩)).mono ?_;rintro e w' ⟨N,rfl,-,-,hb⟩;refine⟨_,_,rfl,hb,.inr ⟨?_,_,_,rfl⟩⟩;cases hn:cy 0 (c::r)with
      |none=>rfl
      |some m=>have:=(yu m hn).1;rw[vu]at this;cases this
     |range=>
      refine(Tryz.strconv_ParseInt_10_at64_range (bs (c::r)) (by rw[cu];exact hlen) (by rw[JS];exact vu) _ w Rv (.inr ⟨te',pe',rfl⟩)).mono ?_;rintro e w' ⟨N,rfl,-,-,hb⟩;refine⟨_,_,rfl,hb,.inr ⟨?_,_,_,rfl⟩⟩;cases hn:cy 0 (c::r)with
      |none=>rfl
      |some m=>have:=(yu m hn).1;rw[vu]at this;cases this
    rw[e];clear e yu MH RD Rv E h0 JS hlen;generalize cy 0 (c::r)=R at K;have H7:((c.toNat:Int)==48)=false\/(((c.toNat:Int)==48)=true/\((c::r:B)==[48])=true):=by
     cases hx:((c.toNat:Int)==48)
     ·exact .inl rfl
     ·rw[hx,Bool.true_and,Bool.not_eq_false']at hq;exact .inr ⟨rfl,hq⟩
    clear hq hd;have Zi:=Ak;rcases H7 with rX|⟨rX,vq⟩
    all_goals
     go_enter Tryz.func229,Tryz.ntmps229
     go_wp2_with (go_at_call 240;refine K.mono ?_;rintro e w1 ⟨n,ev,rfl,hb,⟨rfl,⟨hR,hn⟩|⟨hR,hn⟩⟩|⟨hR,t,p,rfl⟩⟩)
     all_goals
      go_ret2
      rw[hR];exact⟨rfl,hb⟩
  ·have e:av (c::r)=none:=by rw[av,ja (fun e=>hd e.1)]
   rw[e];have ET:(c.toNat:Int)<48\/((48:Int)<=c.toNat/\(57:Int)<c.toNat):=by
    simp only[digit,Bool.and_eq_true,decide_eq_true_eq]at hd;omega
   clear hd e;rcases ET with ET|⟨Ss,Zd⟩
   all_goals
    go_enter Tryz.func229,Tryz.ntmps229
    go_wp2
    go_ret2
    exact⟨rfl,Below.refl _ _⟩
end PrjG
namespace PrjH
open Go Go.RowKit Sq PrjF PrjG
theorem BX {l:B}{n:Int}(h:av l=some n):0<=n/\n<=1000000000:=by
 refine⟨sC h,?_⟩;cases l with
 |nil=>cases h
 |cons c r=>
  rw[av]at h;split at h
  ·rename_i hd;exact((pO (r:=r) hd.1).1 n h).2
  ·cases h
theorem ed (l:B):0<=(av l).getD 0/\(av l).getD 0<=1000000000:=by
 cases h:av l with
 |none=>simp
 |some n=>simpa using BX h
theorem yP (l:B):(∃r,l=45::r/\Lib.trimPrefix l [45]=r/\Lib.hasPrefix l [45]=true)\/((∀r,l≠45::r)/\Lib.trimPrefix l [45]=l/\Lib.hasPrefix l [45]=false):=by
 cases l with
 |nil=>right;exact⟨by simp,rfl,rfl⟩
 |cons c r=>
  by_cases h:c=45
  ·subst h;left;exact⟨r,rfl,rfl,rfl⟩
  ·right;have hp:Lib.hasPrefix (c::r) [45]=false:=by
    simp[Lib.hasPrefix,List.isPrefixOf];exact fun e=>h e.symm
   exact⟨by intro r' e;simp only[List.cons.injEq]at e;exact h e.1,by simp[Lib.trimPrefix,hp],hp⟩
theorem vS {l:B}(h:∀r,l≠45::r):cI l=av l:=by
 cases l with
 |nil=>rfl
 |cons c r=>rw[cI,ja (fun e=>h r (by rw[e]))]
theorem IN (l:B):(⟨l.toArray⟩:ByteArray)=bs l:=rfl
set_option maxRecDepth 20000 in
theorem pJ (l:B)(w:World)(h:l.length<=1099511627776)(E:Env w):
  Calls Tryz.prog 203 #[.string (bs l)] w fun e w'=>e=.returned (.tuple #[.int .i64 ((cI l).getD 0),.bool (cI l).isSome])/\Below w.heap.size w w':=by
 have JS:(bs l).data.toList=l:=by simp[bs]
 have K:=Tryz.strings_CutPrefix (bs l) ⟨#[45]⟩ w;rw[JS]at K;have Xg:(⟨#[45]⟩:ByteArray).data.toList=[45]:=rfl;rw[Xg]at K;rcases yP l with⟨r,rfl,h1,h2⟩|⟨c8,h1,h2⟩
 ·rw[h1,h2]at K;have D:=gI r w (by simp at h;omega) E;obtain⟨d1,d2⟩:=ed r;have hN:cI (45::r)=(match av r with|none=>none|some n=>if n=0 then none else some (-n)):=by rw[cI,jb rfl];cases av r<;>rfl
  rw[hN];clear h1 h2 hN JS;cases hd:av r with
  |none=>
   rw[hd]at D;go_enter Tryz.func203,Tryz.ntmps203
   go_wp2_with (first|(go_at_call 228;refine K.mono ?_;rintro e w1 ⟨rfl,rfl⟩)|(go_at_call 229;refine D.mono ?_;rintro e w1 ⟨rfl,hb⟩))
   go_ret2
   exact⟨rfl,hb⟩
  |some n=>
   rw[hd]at D d1 d2;simp only[Option.getD_some]at d1 d2;by_cases hn:n=0
   ·subst hn;go_enter Tryz.func203,Tryz.ntmps203
    go_wp2_with (first|(go_at_call 228;refine K.mono ?_;rintro e w1 ⟨rfl,rfl⟩)|(go_at_call 229;refine D.mono ?_;rintro e w1 ⟨rfl,hb⟩))
    go_ret2
    exact⟨rfl,hb⟩
   ·have DV:(n==0)=false:=by simp[hn]
    go_enter Tryz.func203,Tryz.ntmps203
    go_wp2_with (first|(go_at_call 228;refine K.mono ?_;rintro e w1 ⟨rfl,rfl⟩)|(go_at_call 229;refine D.mono ?_;rintro e w1 ⟨rfl,hb⟩))
    go_ret2
    exact⟨Ec (by simp) (by simp[hn]),hb⟩
 ·rw[h1,h2]at K;have D:=gI l w h E;rw[vS c8];clear h1 h2 c8 JS;go_enter Tryz.func203,Tryz.ntmps203
  go_wp2_with (first|(go_at_call 228;refine K.mono ?_;rintro e w1 ⟨rfl,rfl⟩)|(go_at_call 229;refine D.mono ?_;rintro e w1 ⟨rfl,hb⟩))
  go_ret2
  exact⟨rfl,hb⟩
set_option maxRecDepth 20000 in
theorem qK (l:B)(w:World)(h:l.length<=1099511627776)(E:Env w):
  Calls Tryz.prog 205 #[.string (bs l)] w fun e w'=>e=.returned (.tuple #[.int .i64 ((av l).getD 0),.bool (av l).isSome])/\Below w.heap.size w w':=by
 have D:=gI l w h E;obtain⟨d1,d2⟩:=ed l;go_enter Tryz.func205,Tryz.ntmps205
 go_wp2_with (go_at_call 229;refine D.mono ?_;rintro e w1 ⟨rfl,hb⟩)
 go_ret2
 exact⟨rfl,hb⟩
def yf (l:B):Bool:=match av l with|some n=>decide (n<50)|none=>false
set_option maxRecDepth 20000 in
theorem sG (l:B)(w:World)(h:l.length<=1099511627776)(E:Env w):
  Calls Tryz.prog 204 #[.string (bs l)] w fun e w'=>e=.returned (.tuple #[.int .i64 ((av l).getD 0),.bool (yf l)])/\Below w.heap.size w w':=by
 have D:=gI l w h E;obtain⟨d1,d2⟩:=ed l;unfold yf;cases hd:av l with
 |none=>
  rw[hd]at D;go_enter Tryz.func204,Tryz.ntmps204
  go_wp2_with (go_at_call 229;refine D.mono ?_;rintro e w1 ⟨rfl,hb⟩)
  go_ret2
  exact⟨rfl,hb⟩
 |some n=>
  rw[hd]at D d1 d2;simp only[Option.getD_some]at d1 d2;by_cases hn:n<50
  all_goals
   go_enter Tryz.func204,Tryz.ntmps204
   go_wp2_with (go_at_call 229;refine D.mono ?_;rintro e w1 ⟨rfl,hb⟩)
   go_ret2
   exact⟨Ec rfl (by simp[hn]),hb⟩
end PrjH
end Go.Proofs.YtmlgajhhnojdjaaGreatDoor
