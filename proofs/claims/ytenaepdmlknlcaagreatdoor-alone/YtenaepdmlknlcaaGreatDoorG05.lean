import Derived.Test.YtenaepdmlknlcaaGreatDoorG02
import Derived.Test.YtenaepdmlknlcaaGreatDoorG03
open Go.Proofs.Tryz
set_option maxRecDepth 100000
set_option maxHeartbeats 8000000
namespace Go.Proofs
section
open Go.Shelf Go.RowKit Go.Sort Go.Lib
def Tryz.tC:Go.Shelf.Ren:=⟨λ |156=>97|165=>101|166=>102|169=>104|240=>139|241=>140|276=>167|277=>168|n=>n,λ |31=>79|9=>9|3=>3|4=>4|0=>0|20=>20|72=>199|76=>203|70=>196|37=>197|75=>202|127=>253|164=>282|5=>5|80=>113|n=>n,λ |n=>n⟩
theorem Tryz.Qf:Go.Proofs.Lays.n156 prog Tryz.tC:={
 mixed:=by kernel_rfl
 f156:=func97.trans (congrArg some (by kernel_rfl))
 f165:=func101.trans (congrArg some (by kernel_rfl))
 f166:=func102.trans (congrArg some (by kernel_rfl))
 f169:=func104.trans (congrArg some (by kernel_rfl))
 f240:=func139.trans (congrArg some (by kernel_rfl))
 f241:=func140.trans (congrArg some (by kernel_rfl))
 f276:=func167.trans (congrArg some (by kernel_rfl))
 f277:=func168.trans (congrArg some (by kernel_rfl))
 t0:=underlying0
 a0:=isAgg0
 z0:=sizeOf0
 v0:=zeroValue0
 t3:=underlying3
 a3:=isAgg3
 z3:=sizeOf3
 v3:=zeroValue3
 t4:=underlying4
 a4:=isAgg4
 z4:=sizeOf4
 v4:=zeroValue4
 t9:=underlying9
 a9:=isAgg9
 z9:=sizeOf9
 v9:=zeroValue9
 t20:=underlying20
 a20:=isAgg20
 z20:=sizeOf20
 v20:=zeroValue20
 t31:=underlying79
 a31:=isAgg79
 z31:=sizeOf79
 v31:=zeroValue79
 t37:=underlying197
 a37:=isAgg197
 z37:=sizeOf197
 v37:=zeroValue197
 t70:=underlying196
 a70:=isAgg196
 z70:=sizeOf196
 v70:=zeroValue196
 t72:=underlying199
 a72:=isAgg199
 z72:=sizeOf199
 v72:=zeroValue199
 t75:=underlying202
 a75:=isAgg202
 z75:=sizeOf202
 v75:=zeroValue202
 t76:=underlying203
 a76:=isAgg203
 z76:=sizeOf203
 v76:=zeroValue203
 t127:=underlying253
 a127:=isAgg253
 z127:=sizeOf253
 v127:=zeroValue253
 t164:=underlying282
 a164:=isAgg282
 z164:=sizeOf282
 v164:=zeroValue282}
theorem Tryz.qh:Builder.Extra prog Tryz.tC:={
 sizeBuilder:=by kernel_rfl
 liesBuilder:=by kernel_rfl
 t5:=underlying5
 a5:=isAgg5
 z5:=sizeOf5
 v5:=zeroValue5
 infoByte:=by kernel_rfl
 cellsByte:=by kernel_rfl
 sizeByte:=by kernel_rfl
 neB5:=by decide}
theorem Tryz.strings_Join(bk o c:Nat)(xs:List ByteArray)(sep:ByteArray)(w:World)(hcells:∀(j:Nat) x,xs[j]? =some x->w.cell? ⟨bk,o+j,none⟩=some (.string x))(hbk:bk<w.heap.size)(hN:xs.length<=140737488355328)(hcap:xs.length<=c)(hlen:(Lib.join (xs.map (·.data.toList)) sep.data.toList).length<=140737488355328):
  Calls prog 97 #[.slice (some ⟨bk,o,none⟩) xs.length c,.string sep] w λe w'=>e=.returned (.string ⟨(Lib.join (xs.map (·.data.toList)) sep.data.toList).toArray⟩)/\Below w.heap.size w w':=Any.strings_Join Tryz.Qf Tryz.qh bk o c xs sep w hcells hbk hN hcap hlen
def Tryz.AH:Go.Shelf.Ren:=⟨λ |171=>96|243=>131|246=>161|283=>132|284=>133|285=>134|286=>135|129=>163|317=>162|318=>164|319=>165|320=>166|337=>184|338=>185|n=>n,λ |3=>3|9=>9|2=>2|4=>4|171=>244|0=>0|53=>153|37=>197|5=>5|173=>247|212=>279|51=>154|20=>20|213=>280|46=>68|232=>314|233=>315|n=>n,λ |17=>0|18=>2|19=>3|n=>n⟩
theorem Tryz.M7:Go.Proofs.LaysM.n171 prog Tryz.AH:={
 mixed:=by kernel_rfl
 f129:=func163.trans (congrArg some (by kernel_rfl))
 f171:=func96.trans (congrArg some (by kernel_rfl))
 f243:=func131.trans (congrArg some (by kernel_rfl))
 f246:=func161.trans (congrArg some (by kernel_rfl))
 f283:=func132.trans (congrArg some (by kernel_rfl))
 f284:=func133.trans (congrArg some (by kernel_rfl))
 f285:=func134.trans (congrArg some (by kernel_rfl))
 f286:=func135.trans (congrArg some (by kernel_rfl))
 f317:=func162.trans (congrArg some (by kernel_rfl))
 f318:=func164.trans (congrArg some (by kernel_rfl))
 f319:=func165.trans (congrArg some (by kernel_rfl))
 f320:=func166.trans (congrArg some (by kernel_rfl))
 f337:=func184.trans (congrArg some (by kernel_rfl))
 f338:=func185.trans (congrArg some (by kernel_rfl))
 t0:=underlying0
 a0:=isAgg0
 z0:=sizeOf0
 v0:=zeroValue0
 t2:=underlying2
 a2:=isAgg2
 z2:=sizeOf2
 v2:=zeroValue2
 t3:=underlying3
 a3:=isAgg3
 z3:=sizeOf3
 v3:=zeroValue3
 t4:=underlying4
 a4:=isAgg4
 z4:=sizeOf4
 v4:=zeroValue4
 t5:=underlying5
 a5:=isAgg5
 z5:=sizeOf5
 v5:=zeroValue5
 t9:=underlying9
 a9:=isAgg9
 z9:=sizeOf9
 v9:=zeroValue9
 t20:=underlying20
 a20:=isAgg20
 z20:=sizeOf20
 v20:=zeroValue20
 t37:=underlying197
 a37:=isAgg197
 z37:=sizeOf197
 v37:=zeroValue197
 t46:=underlying68
 a46:=isAgg68
 z46:=sizeOf68
 v46:=zeroValue68
 t51:=underlying154
 a51:=isAgg154
 z51:=sizeOf154
 v51:=zeroValue154
 t53:=underlying153
 a53:=isAgg153
 z53:=sizeOf153
 v53:=zeroValue153
 t171:=underlying244
 a171:=isAgg244
 z171:=sizeOf244
 v171:=zeroValue244
 t173:=underlying247
 a173:=isAgg247
 z173:=sizeOf247
 v173:=zeroValue247
 t212:=underlying279
 a212:=isAgg279
 z212:=sizeOf279
 v212:=zeroValue279
 t213:=underlying280
 a213:=isAgg280
 z213:=sizeOf280
 t232:=underlying314
 a232:=isAgg314
 z232:=sizeOf314
 v232:=zeroValue314
 t233:=underlying315
 a233:=isAgg315
 z233:=sizeOf315
 v233:=zeroValue315
 g17:=by kernel_rfl
 g18:=by kernel_rfl
 g19:=by kernel_rfl
 i0:=by kernel_rfl
 i2:=by kernel_rfl
 i3:=by kernel_rfl
 i4:=by kernel_rfl
 i5:=by kernel_rfl
 i9:=by kernel_rfl
 i20:=by kernel_rfl
 i37:=by kernel_rfl
 i46:=by kernel_rfl
 i51:=by kernel_rfl
 i53:=by kernel_rfl
 i171:=by kernel_rfl
 i173:=by kernel_rfl
 i212:=by kernel_rfl
 i232:=by kernel_rfl
 i233:=by kernel_rfl
 m17:=by kernel_rfl
 m18:=by kernel_rfl
 m19:=by kernel_rfl}
theorem Tryz.strconv_Itoa(n:Int)(h0: -9223372036854775808<=n)(h1:n<=9223372036854775807)(w:World)(htab:Lib.TabIs prog w "internal/strconv.uint64pow10" .u64 Lib.pow10Tab):
  Calls prog 96 #[.int .i64 n] w λe w'=>e=.returned (.string ⟨(Lib.itoa n).toArray⟩)/\∃k os,w'=grow (w.drewN k) os:=Any.strconv_Itoa Tryz.M7 n h0 h1 w htab
def Tryz.CT:Go.Shelf.Ren:=⟨λ |171=>96|243=>131|246=>161|283=>132|284=>133|285=>134|286=>135|129=>163|317=>162|318=>164|319=>165|320=>166|337=>184|338=>185|n=>n,λ |3=>3|9=>9|2=>2|4=>4|171=>244|0=>0|53=>153|37=>197|5=>5|173=>247|212=>279|51=>154|20=>20|213=>280|46=>68|232=>314|233=>315|n=>n,λ |17=>0|18=>2|19=>3|n=>n⟩
theorem Tryz.Qg:Go.Proofs.Lays.n171 prog Tryz.CT:={
 mixed:=by kernel_rfl
 f129:=func163.trans (congrArg some (by kernel_rfl))
 f171:=func96.trans (congrArg some (by kernel_rfl))
 f243:=func131.trans (congrArg some (by kernel_rfl))
 f246:=func161.trans (congrArg some (by kernel_rfl))
 f283:=func132.trans (congrArg some (by kernel_rfl))
 f284:=func133.trans (congrArg some (by kernel_rfl))
 f285:=func134.trans (congrArg some (by kernel_rfl))
 f286:=func135.trans (congrArg some (by kernel_rfl))
 f317:=func162.trans (congrArg some (by kernel_rfl))
 f318:=func164.trans (congrArg some (by kernel_rfl))
 f319:=func165.trans (congrArg some (by kernel_rfl))
 f320:=func166.trans (congrArg some (by kernel_rfl))
 f337:=func184.trans (congrArg some (by kernel_rfl))
 f338:=func185.trans (congrArg some (by kernel_rfl))
 t0:=underlying0
 a0:=isAgg0
 z0:=sizeOf0
 v0:=zeroValue0
 t2:=underlying2
 a2:=isAgg2
 z2:=sizeOf2
 v2:=zeroValue2
 t3:=underlying3
 a3:=isAgg3
 z3:=sizeOf3
 v3:=zeroValue3
 t4:=underlying4
 a4:=isAgg4
 z4:=sizeOf4
 v4:=zeroValue4
 t5:=underlying5
 a5:=isAgg5
 z5:=sizeOf5
 v5:=zeroValue5
 t9:=underlying9
 a9:=isAgg9
 z9:=sizeOf9
 v9:=zeroValue9
 t20:=underlying20
 a20:=isAgg20
 z20:=sizeOf20
 v20:=zeroValue20
 t37:=underlying197
 a37:=isAgg197
 z37:=sizeOf197
 v37:=zeroValue197
 t46:=underlying68
 a46:=isAgg68
 z46:=sizeOf68
 v46:=zeroValue68
 t51:=underlying154
 a51:=isAgg154
 z51:=sizeOf154
 v51:=zeroValue154
 t53:=underlying153
 a53:=isAgg153
 z53:=sizeOf153
 v53:=zeroValue153
 t171:=underlying244
 a171:=isAgg244
 z171:=sizeOf244
 v171:=zeroValue244
 t173:=underlying247
 a173:=isAgg247
 z173:=sizeOf247
 v173:=zeroValue247
 t212:=underlying279
 a212:=isAgg279
 z212:=sizeOf279
 v212:=zeroValue279
 t213:=underlying280
 a213:=isAgg280
 z213:=sizeOf280
 t232:=underlying314
 a232:=isAgg314
 z232:=sizeOf314
 v232:=zeroValue314
 t233:=underlying315
 a233:=isAgg315
 z233:=sizeOf315
 v233:=zeroValue315
 g17:=by kernel_rfl
 g18:=by kernel_rfl
 g19:=by kernel_rfl}
theorem Tryz.strconv_Itoa_small(i:Nat)(hi:i<100)(w:World):
  Calls prog 96 #[.int .i64 i] w λe w'=>e=.returned (.string ⟨(Lib.decDigits i).toArray⟩)/\w'=w:=Any.strconv_Itoa_small Tryz.Qg i hi w
def Tryz.AG:Go.Shelf.Ren:=⟨λ |172=>240|244=>244|245=>245|247=>246|279=>247|280=>248|281=>249|282=>250|287=>251|316=>252|171=>96|205=>253|321=>254|322=>255|243=>131|246=>161|283=>132|284=>133|285=>134|286=>135|129=>163|317=>162|318=>164|319=>165|320=>166|337=>184|338=>185|n=>n,λ |9=>9|3=>3|75=>202|76=>203|4=>4|5=>5|167=>349|37=>197|0=>0|85=>350|2=>2|168=>352|53=>153|175=>355|46=>68|210=>358|127=>253|145=>364|143=>362|21=>21|171=>244|173=>247|212=>279|51=>154|20=>20|213=>280|232=>314|233=>315|80=>113|n=>n,λ |15=>6|16=>7|17=>0|18=>2|19=>3|n=>n⟩
theorem Tryz.wK:Go.Proofs.LaysC.n172 prog Tryz.AG:={
 mixed:=by kernel_rfl
 f129:=func163.trans (congrArg some (by kernel_rfl))
 f171:=func96.trans (congrArg some (by kernel_rfl))
 f172:=func240.trans (congrArg some (by kernel_rfl))
 f205:=func253.trans (congrArg some (by kernel_rfl))
 f243:=func131.trans (congrArg some (by kernel_rfl))
 f244:=func244.trans (congrArg some (by kernel_rfl))
 f245:=func245.trans (congrArg some (by kernel_rfl))
 f246:=func161.trans (congrArg some (by kernel_rfl))
 f247:=func246.trans (congrArg some (by kernel_rfl))
 f279:=func247.trans (congrArg some (by kernel_rfl))
 f280:=func248.trans (congrArg some (by kernel_rfl))
 f281:=func249.trans (congrArg some (by kernel_rfl))
 f282:=func250.trans (congrArg some (by kernel_rfl))
 f283:=func132.trans (congrArg some (by kernel_rfl))
 f284:=func133.trans (congrArg some (by kernel_rfl))
 f285:=func134.trans (congrArg some (by kernel_rfl))
 f286:=func135.trans (congrArg some (by kernel_rfl))
 f287:=func251.trans (congrArg some (by kernel_rfl))
 f316:=func252.trans (congrArg some (by kernel_rfl))
 f317:=func162.trans (congrArg some (by kernel_rfl))
 f318:=func164.trans (congrArg some (by kernel_rfl))
 f319:=func165.trans (congrArg some (by kernel_rfl))
 f320:=func166.trans (congrArg some (by kernel_rfl))
 f321:=func254.trans (congrArg some (by kernel_rfl))
 f322:=func255.trans (congrArg some (by kernel_rfl))
 f337:=func184.trans (congrArg some (by kernel_rfl))
 f338:=func185.trans (congrArg some (by kernel_rfl))
 t0:=underlying0
 a0:=isAgg0
 z0:=sizeOf0
 v0:=zeroValue0
 t2:=underlying2
 a2:=isAgg2
 z2:=sizeOf2
 v2:=zeroValue2
 t3:=underlying3
 a3:=isAgg3
 z3:=sizeOf3
 v3:=zeroValue3
 t4:=underlying4
 a4:=isAgg4
 z4:=sizeOf4
 v4:=zeroValue4
 t5:=underlying5
 a5:=isAgg5
 z5:=sizeOf5
 v5:=zeroValue5
 t9:=underlying9
 a9:=isAgg9
 z9:=sizeOf9
 v9:=zeroValue9
 t20:=underlying20
 a20:=isAgg20
 z20:=sizeOf20
 v20:=zeroValue20
 t21:=underlying21
 a21:=isAgg21
 z21:=sizeOf21
 v21:=zeroValue21
 t37:=underlying197
 a37:=isAgg197
 z37:=sizeOf197
 v37:=zeroValue197
 t46:=underlying68
 a46:=isAgg68
 z46:=sizeOf68
 v46:=zeroValue68
 t51:=underlying154
 a51:=isAgg154
 z51:=sizeOf154
 v51:=zeroValue154
 t53:=underlying153
 a53:=isAgg153
 z53:=sizeOf153
 v53:=zeroValue153
 t75:=underlying202
 a75:=isAgg202
 z75:=sizeOf202
 v75:=zeroValue202
 t76:=underlying203
 a76:=isAgg203
 z76:=sizeOf203
 v76:=zeroValue203
 t85:=underlying350
 a85:=isAgg350
 z85:=sizeOf350
 v85:=zeroValue350
 t127:=underlying253
 a127:=isAgg253
 z127:=sizeOf253
 v127:=zeroValue253
 t143:=underlying362
 a143:=isAgg362
 z143:=sizeOf362
 v143:=zeroValue362
 t145:=underlying364
 a145:=isAgg364
 z145:=sizeOf364
 v145:=zeroValue364
 t167:=underlying349
 a167:=isAgg349
 z167:=sizeOf349
 v167:=zeroValue349
 t168:=underlying352
 a168:=isAgg352
 z168:=sizeOf352
 v168:=zeroValue352
 t171:=underlying244
 a171:=isAgg244
 z171:=sizeOf244
 v171:=zeroValue244
 t173:=underlying247
 a173:=isAgg247
 z173:=sizeOf247
 v173:=zeroValue247
 t175:=underlying355
 a175:=isAgg355
 z175:=sizeOf355
 v175:=zeroValue355
 t210:=underlying358
 a210:=isAgg358
 z210:=sizeOf358
 v210:=zeroValue358
 t212:=underlying279
 a212:=isAgg279
 z212:=sizeOf279
 v212:=zeroValue279
 t213:=underlying280
 a213:=isAgg280
 z213:=sizeOf280
 t232:=underlying314
 a232:=isAgg314
 z232:=sizeOf314
 v232:=zeroValue314
 t233:=underlying315
 a233:=isAgg315
 z233:=sizeOf315
 v233:=zeroValue315
 g15:=by kernel_rfl
 g16:=by kernel_rfl
 g17:=by kernel_rfl
 g18:=by kernel_rfl
 g19:=by kernel_rfl
 t80:=underlying113
 a80:=isAgg113
 z80:=sizeOf113
 v80:=zeroValue113
 i0:=by kernel_rfl
 i2:=by kernel_rfl
 i3:=by kernel_rfl
 i4:=by kernel_rfl
 i5:=by kernel_rfl
 i9:=by kernel_rfl
 i20:=by kernel_rfl
 i21:=by kernel_rfl
 i37:=by kernel_rfl
 i46:=by kernel_rfl
 i51:=by kernel_rfl
 i53:=by kernel_rfl
 i75:=by kernel_rfl
 i76:=by kernel_rfl
 i80:=by kernel_rfl
 i85:=by kernel_rfl
 i127:=by kernel_rfl
 i143:=by kernel_rfl
 i145:=by kernel_rfl
 i167:=by kernel_rfl
 i168:=by kernel_rfl
 i171:=by kernel_rfl
 i173:=by kernel_rfl
 i175:=by kernel_rfl
 i210:=by kernel_rfl
 i212:=by kernel_rfl
 i232:=by kernel_rfl
 i233:=by kernel_rfl
 m15:=by kernel_rfl
 m16:=by kernel_rfl
 m17:=by kernel_rfl
 m18:=by kernel_rfl
 m19:=by kernel_rfl
 c0:=by kernel_rfl
 c2:=by kernel_rfl
 c3:=by kernel_rfl
 c4:=by kernel_rfl
 c5:=by kernel_rfl
 c9:=by kernel_rfl
 c20:=by kernel_rfl
 c21:=by kernel_rfl
 c37:=by kernel_rfl
 c46:=by kernel_rfl
 c51:=by kernel_rfl
 c53:=by kernel_rfl
 c75:=by kernel_rfl
 c76:=by kernel_rfl
 c80:=by kernel_rfl
 c85:=by kernel_rfl
 c127:=by kernel_rfl
 c143:=by kernel_rfl
 c145:=by kernel_rfl
 c167:=by kernel_rfl
 c168:=by kernel_rfl
 c171:=by kernel_rfl
 c173:=by kernel_rfl
 c175:=by kernel_rfl
 c210:=by kernel_rfl
 c212:=by kernel_rfl
 c213:=by kernel_rfl
 c232:=by kernel_rfl
 c233:=by kernel_rfl}
theorem Tryz.strconv_Atoi_ok(s:ByteArray)(hmax:s.size<=9223372036854775806)(v:Int)(h:Lib.atoiAll s.data.toList=.ok v)(w:World):
  Calls prog 240 #[.string s] w λe w'=>e=.returned (.tuple #[.int .i64 v,.nilIface])/\(w'=w\/∃t,w'=Lib.bytesWorld w 5 t):=Any.strconv_Atoi_ok Tryz.wK s hmax v h w
theorem Tryz.strconv_Atoi_syntax(s:ByteArray)(hlim:s.size<=281474976710656)(h:Lib.atoiAll s.data.toList=.«syntax»)(ev:Value)(w:World)(hv:w.cell? ⟨6,0,none⟩=some ev)(hev:ev=.nilIface\/∃te pe,ev=.iface te pe):
  Calls prog 240 #[.string s] w λe w'=>∃N,e=.returned (.tuple #[.int .i64 (0),.iface 352 (.pointer (some ⟨N,0,none⟩))])/\w.heap.size<=N/\w'.heap[N]? =some (.cells #[.string ⟨#[65,116,111,105]⟩,.string s,ev] 358 (0,0))/\Below w.heap.size w w':=Any.strconv_Atoi_syntax Tryz.wK s hlim h ev w hv hev
theorem Tryz.strconv_Atoi_range(s:ByteArray)(hlim:s.size<=281474976710656)(h:Lib.atoiAll s.data.toList=.range)(ev:Value)(w:World)(hv:w.cell? ⟨7,0,none⟩=some ev)(hev:ev=.nilIface\/∃te pe,ev=.iface te pe):
  Calls prog 240 #[.string s] w λe w'=>∃N,e=.returned (.tuple #[.int .i64 (Lib.atoiSat s.data.toList),.iface 352 (.pointer (some ⟨N,0,none⟩))])/\w.heap.size<=N/\w'.heap[N]? =some (.cells #[.string ⟨#[65,116,111,105]⟩,.string s,ev] 358 (0,0))/\Below w.heap.size w w':=Any.strconv_Atoi_range Tryz.wK s hlim h ev w hv hev
def Tryz.CR:Go.Shelf.Ren:=⟨λ |145=>232|220=>241|219=>230|217=>236|225=>237|224=>238|267=>239|266=>242|314=>243|n=>n,λ |9=>9|4=>4|59=>340|3=>3|5=>5|46=>68|146=>249|51=>154|n=>n,λ |1=>1|n=>n⟩
theorem Tryz.Qd:Go.Proofs.Lays.n145 prog Tryz.CR:={
 mixed:=by kernel_rfl
 f145:=func232.trans (congrArg some (by kernel_rfl))
 f217:=func236.trans (congrArg some (by kernel_rfl))
 f219:=func230.trans (congrArg some (by kernel_rfl))
 f220:=func241.trans (congrArg some (by kernel_rfl))
 f224:=func238.trans (congrArg some (by kernel_rfl))
 f225:=func237.trans (congrArg some (by kernel_rfl))
 f266:=func242.trans (congrArg some (by kernel_rfl))
 f267:=func239.trans (congrArg some (by kernel_rfl))
 f314:=func243.trans (congrArg some (by kernel_rfl))
 t3:=underlying3
 a3:=isAgg3
 z3:=sizeOf3
 v3:=zeroValue3
 t4:=underlying4
 a4:=isAgg4
 z4:=sizeOf4
 v4:=zeroValue4
 t5:=underlying5
 a5:=isAgg5
 z5:=sizeOf5
 v5:=zeroValue5
 t9:=underlying9
 a9:=isAgg9
 z9:=sizeOf9
 v9:=zeroValue9
 t46:=underlying68
 a46:=isAgg68
 z46:=sizeOf68
 v46:=zeroValue68
 t51:=underlying154
 a51:=isAgg154
 z51:=sizeOf154
 v51:=zeroValue154
 t59:=underlying340
 a59:=isAgg340
 z59:=sizeOf340
 v59:=zeroValue340
 t146:=underlying249
 a146:=isAgg249
 z146:=sizeOf249
 v146:=zeroValue249
 g1:=by kernel_rfl}
theorem Tryz.strings_Cut(s sep:ByteArray)(m:Int)(w:World)(hs:s.size<4294967281)(hm:w.cell? ⟨1,0,none⟩=some (.int .i64 m)):
  Calls prog 232 #[.string s,.string sep] w λe w'=>e=.returned (.tuple #[.string ⟨(Lib.cut s.data.toList sep.data.toList).1.toArray⟩,.string ⟨(Lib.cut s.data.toList sep.data.toList).2.1.toArray⟩,.bool (Lib.cut s.data.toList sep.data.toList).2.2])/\∃n,w'=w.drewN n:=Any.strings_Cut Tryz.Qd s sep m w hs hm
def Tryz.CS:Go.Shelf.Ren:=⟨λ |146=>177|221=>195|268=>209|138=>210|143=>211|195=>227|197=>228|218=>229|219=>230|260=>235|217=>236|225=>237|224=>238|267=>239|266=>242|314=>243|n=>n,λ |9=>9|31=>79|3=>3|4=>4|0=>0|105=>337|21=>21|5=>5|46=>68|119=>343|139=>346|138=>345|146=>249|51=>154|n=>n,λ |1=>1|3=>4|4=>5|n=>n⟩
theorem Tryz.Qe:Go.Proofs.Lays.n146 prog Tryz.CS:={
 mixed:=by kernel_rfl
 f138:=func210.trans (congrArg some (by kernel_rfl))
 f143:=func211.trans (congrArg some (by kernel_rfl))
 f146:=func177.trans (congrArg some (by kernel_rfl))
 f195:=func227.trans (congrArg some (by kernel_rfl))
 f197:=func228.trans (congrArg some (by kernel_rfl))
 f217:=func236.trans (congrArg some (by kernel_rfl))
 f218:=func229.trans (congrArg some (by kernel_rfl))
 f219:=func230.trans (congrArg some (by kernel_rfl))
 f221:=func195.trans (congrArg some (by kernel_rfl))
 f224:=func238.trans (congrArg some (by kernel_rfl))
 f225:=func237.trans (congrArg some (by kernel_rfl))
 f260:=func235.trans (congrArg some (by kernel_rfl))
 f266:=func242.trans (congrArg some (by kernel_rfl))
 f267:=func239.trans (congrArg some (by kernel_rfl))
 f268:=func209.trans (congrArg some (by kernel_rfl))
 f314:=func243.trans (congrArg some (by kernel_rfl))
 t0:=underlying0
 a0:=isAgg0
 z0:=sizeOf0
 v0:=zeroValue0
 t3:=underlying3
 a3:=isAgg3
 z3:=sizeOf3
 v3:=zeroValue3
 t4:=underlying4
 a4:=isAgg4
 z4:=sizeOf4
 v4:=zeroValue4
 t5:=underlying5
 a5:=isAgg5
 z5:=sizeOf5
 v5:=zeroValue5
 t9:=underlying9
 a9:=isAgg9
 z9:=sizeOf9
 v9:=zeroValue9
 t21:=underlying21
 a21:=isAgg21
 z21:=sizeOf21
 v21:=zeroValue21
 t31:=underlying79
 a31:=isAgg79
 z31:=sizeOf79
 v31:=zeroValue79
 t46:=underlying68
 a46:=isAgg68
 z46:=sizeOf68
 v46:=zeroValue68
 t51:=underlying154
 a51:=isAgg154
 z51:=sizeOf154
 v51:=zeroValue154
 t105:=underlying337
 a105:=isAgg337
 z105:=sizeOf337
 v105:=zeroValue337
 t119:=underlying343
 a119:=isAgg343
 z119:=sizeOf343
 t138:=underlying345
 a138:=isAgg345
 z138:=sizeOf345
 v138:=zeroValue345
 t139:=underlying346
 a139:=isAgg346
 z139:=sizeOf346
 v139:=zeroValue346
 t146:=underlying249
 a146:=isAgg249
 z146:=sizeOf249
 v146:=zeroValue249
 g1:=by kernel_rfl
 g3:=by kernel_rfl
 g4:=by kernel_rfl}
theorem Tryz.strings_Split(s sep:ByteArray)(m:Int)(w:World)(hs:s.size<4294967281)(hm:w.cell? ⟨1,0,none⟩=some (.int .i64 m))(h1:1<=sep.size):
  Calls prog 177 #[.string s,.string sep] w λe w'=>
   e=.returned (.slice (some ⟨w.heap.size,0,none⟩) (Lib.countB s sep+1) (Lib.countB s sep+1))/\w'=w.alloc (.cells ((Lib.splitB sep 0 (Lib.countB s sep) s).map Value.string).toArray 9):=Any.strings_Split Tryz.Qe (by kernel_rfl) s sep m w hs hm h1
def Tryz.tB:Go.Shelf.Ren:=⟨λ |105=>61|212=>99|99=>100|165=>101|166=>102|170=>103|169=>104|263=>136|264=>137|206=>138|240=>139|241=>140|276=>167|277=>168|n=>n,λ |9=>9|3=>3|4=>4|20=>20|0=>0|46=>68|109=>193|5=>5|72=>199|76=>203|51=>154|146=>249|53=>153|148=>251|70=>196|37=>197|75=>202|127=>253|164=>282|80=>113|n=>n,λ |n=>n⟩
theorem Tryz.AE:Go.Proofs.Lays.n105 prog Tryz.tB:={
 mixed:=by kernel_rfl
 f99:=func100.trans (congrArg some (by kernel_rfl))
 f105:=func61.trans (congrArg some (by kernel_rfl))
 f165:=func101.trans (congrArg some (by kernel_rfl))
 f166:=func102.trans (congrArg some (by kernel_rfl))
 f169:=func104.trans (congrArg some (by kernel_rfl))
 f170:=func103.trans (congrArg some (by kernel_rfl))
 f206:=func138.trans (congrArg some (by kernel_rfl))
 f212:=func99.trans (congrArg some (by kernel_rfl))
 f240:=func139.trans (congrArg some (by kernel_rfl))
 f241:=func140.trans (congrArg some (by kernel_rfl))
 f263:=func136.trans (congrArg some (by kernel_rfl))
 f264:=func137.trans (congrArg some (by kernel_rfl))
 f276:=func167.trans (congrArg some (by kernel_rfl))
 f277:=func168.trans (congrArg some (by kernel_rfl))
 t0:=underlying0
 a0:=isAgg0
 z0:=sizeOf0
 v0:=zeroValue0
 t3:=underlying3
 a3:=isAgg3
 z3:=sizeOf3
 v3:=zeroValue3
 t4:=underlying4
 a4:=isAgg4
 z4:=sizeOf4
 v4:=zeroValue4
 t5:=underlying5
 a5:=isAgg5
 z5:=sizeOf5
 v5:=zeroValue5
 t9:=underlying9
 a9:=isAgg9
 z9:=sizeOf9
 v9:=zeroValue9
 t20:=underlying20
 a20:=isAgg20
 z20:=sizeOf20
 v20:=zeroValue20
 t37:=underlying197
 a37:=isAgg197
 z37:=sizeOf197
 v37:=zeroValue197
 t46:=underlying68
 a46:=isAgg68
 z46:=sizeOf68
 v46:=zeroValue68
 t51:=underlying154
 a51:=isAgg154
 z51:=sizeOf154
 v51:=zeroValue154
 t53:=underlying153
 a53:=isAgg153
 z53:=sizeOf153
 v53:=zeroValue153
 t70:=underlying196
 a70:=isAgg196
 z70:=sizeOf196
 v70:=zeroValue196
 t72:=underlying199
 a72:=isAgg199
 z72:=sizeOf199
 v72:=zeroValue199
 t75:=underlying202
 a75:=isAgg202
 z75:=sizeOf202
 v75:=zeroValue202
 t76:=underlying203
 a76:=isAgg203
 z76:=sizeOf203
 v76:=zeroValue203
 t109:=underlying193
 a109:=isAgg193
 z109:=sizeOf193
 v109:=zeroValue193
 t127:=underlying253
 a127:=isAgg253
 z127:=sizeOf253
 v127:=zeroValue253
 t146:=underlying249
 a146:=isAgg249
 z146:=sizeOf249
 v146:=zeroValue249
 t148:=underlying251
 a148:=isAgg251
 z148:=sizeOf251
 v148:=zeroValue251
 t164:=underlying282
 a164:=isAgg282
 z164:=sizeOf282
 v164:=zeroValue282}
theorem Tryz.qg:Builder.Extra prog Tryz.tB:={
 sizeBuilder:=by kernel_rfl
 liesBuilder:=by kernel_rfl
 t5:=underlying5
 a5:=isAgg5
 z5:=sizeOf5
 v5:=zeroValue5
 infoByte:=by kernel_rfl
 cellsByte:=by kernel_rfl
 sizeByte:=by kernel_rfl
 neB5:=by decide}
theorem Tryz.strings_Repeat_main(s:ByteArray)(c:Nat)(w:World)(hc2:2<=c)(hc:c<=9223372036854775807)(hlen:s.size*c<=140737488355328)(h0:0<s.size):
  Calls prog 61 #[.string s,.int .i64 c] w λe w'=>e=.returned (.string ⟨(Lib.repeatL s.data.toList c).toArray⟩)/\Below w.heap.size w w':=Any.strings_Repeat_main Tryz.AE Tryz.qg s c w hc2 hc hlen h0
open Go.RowKit Go.Lib in
theorem Tryz.strings_Repeat_zero(s:ByteArray)(w:World):
  Calls prog 61 #[.string s,.int .i64 0] w λe w'=>e=.returned (.string ⟨#[]⟩)/\w'=w:=Any.strings_Repeat_zero Tryz.AE s w
open Go.RowKit Go.Lib in
theorem Tryz.strings_Repeat_one(s:ByteArray)(w:World):
  Calls prog 61 #[.string s,.int .i64 1] w λe w'=>e=.returned (.string s)/\w'=w:=Any.strings_Repeat_one Tryz.AE s w
end
end Go.Proofs
namespace Go.Proofs.YtenaepdmlknlcaaGreatDoor
section
open Go.RowKit
structure Wd where
 left:List ByteArray
 wrong:Bool
def Wd.next(s:Wd):ByteArray×Wd:=match s.left with|[]=>(⟨#[]⟩,⟨[],true⟩)|x::xs=>(x,⟨xs,s.wrong⟩)
def Wd.check(s:Wd)(g:Bool):Wd:=⟨s.left,s.wrong||!g⟩
structure bI(w:World)(b:Nat)(s:Wd):Prop where
 ex:∃sb off cap:Nat,w.cell? ⟨b,0,none⟩=some (.slice (some ⟨sb,off,none⟩) s.left.length cap)/\s.left.length<=cap/\sb<b/\∀(i:Nat) x,s.left[i]? =some x->w.cell? ⟨sb,off+i,none⟩=some (.string x)
 c1:w.cell? ⟨b,1,none⟩=some (.bool s.wrong)
 f0:w.frozen? ⟨b,0,none⟩=false
 f1:w.frozen? ⟨b,1,none⟩=false
def ig(b:Nat):Nat->Nat->Prop:=λk _=>k=b
theorem jQ(b:Nat)(w:World)(i:Nat)(u:Value):Fr (ig b) w (w.setCell ⟨b,i,none⟩ u):=(Fr.refl (ig b) w).setCell (b:=b) (i:=i) (.inl rfl) u
variable {w:World} {b:Nat}
theorem bI.lt{s:Wd}(h:bI w b s):b<w.heap.size:=dz w ⟨b,1,none⟩ h.c1
variable {n:Nat}
theorem bI.below{A B:World}(h:Below n A B){s:Wd}(k:bI A b s)(hn:A.heap.size<=n):bI B b s:=by
 obtain⟨⟨sb,off,cap,e0,e1,e2,e4⟩,c1,f0,f1⟩:=k
 have hb:b<n:=Nat.lt_of_lt_of_le (dz A ⟨b,1,none⟩ c1) hn
 exact⟨⟨sb,off,cap,(h.cell (p:=⟨b,0,none⟩) hb).trans e0,e1,e2,λi x e=>(h.cell (p:=⟨sb,off+i,none⟩) (show sb<n by omega)).trans (e4 i x e)⟩,(h.cell (p:=⟨b,1,none⟩) hb).trans c1,(h.frozen (p:=⟨b,0,none⟩) hb).trans f0,(h.frozen (p:=⟨b,1,none⟩) hb).trans f1⟩
theorem iV(b:Nat)(s:Wd)(w:World)(h:bI w b s):
  Calls prog 196 #[.pointer (some ⟨b,0,none⟩)] w λe w'=>e=.returned (.string s.next.1)/\bI w' b s.next.2/\Fr (ig b) w w':=by
 obtain⟨left,wrong⟩:=s
 obtain⟨⟨sb,off,cap,e0,e1,e2,e4⟩,c1,f0,f1⟩:=h
 dsimp only at e0 e1 e4 c1
 cases left with
 |nil=>
  simp only[List.length_nil]at e0
  clear e4 e1
  go_enter func196,ntmps196
  go_wp2
  go_ret
  exact⟨rfl,⟨⟨sb,off,cap,(aK w _ (.inr (by decide))).trans e0,Nat.zero_le _,e2,λi x e=>by simp[Wd.next]at e⟩,cell_eq c1 _,by rw[World.frozen?_setCell];exact f0,by rw[World.frozen?_setCell];exact f1⟩,jQ b w _ _⟩
 |cons x xs=>
  have e5:=e4 0 x rfl
  rw[Nat.add_zero]at e5
  have H4:=af e4
  have hl:(x::xs).length=xs.length+1:=rfl
  rw[hl]at e0 e1
  clear e4 hl
  obtain⟨n,hn⟩:∃n,xs.length=n:=⟨_,rfl⟩
  rw[hn]at e0 e1
  have Hn:=af hn
  clear hn
  go_enter func196,ntmps196
  go_wp2
  ·have hn0:n=0:=by omega
   go_ret
   refine⟨rfl,⟨⟨sb,off,0,?_,?_,e2,λi y e=>?_⟩,(aK w _ (.inr (by decide))).trans c1,by rw[World.frozen?_setCell];exact f0,by rw[World.frozen?_setCell];exact f1⟩,jQ b w _ _⟩
   ·show _=some (Value.slice (some ⟨sb,off,none⟩) xs.length 0)
    rw[Hn.out];exact cell_eq e0 _
   ·show xs.length<=0
    rw[Hn.out,hn0];exact aM
   ·have:xs=[]:=List.length_eq_zero_iff.1 (Hn.out.trans hn0)
    subst this
    simp[Wd.next]at e
  ·go_ret
   refine⟨rfl,⟨⟨sb,off+1,cap-1,?_,?_,e2,λi y e=>?_⟩,(aK w _ (.inr (by decide))).trans c1,by rw[World.frozen?_setCell];exact f0,by rw[World.frozen?_setCell];exact f1⟩,jQ b w _ _⟩
   ·show _=some (Value.slice (some ⟨sb,off+1,none⟩) xs.length (cap-1))
    rw[Hn.out];exact cell_eq e0 _
   ·show xs.length<=cap-1
    rw[Hn.out];omega
   ·rw[aK w _ (.inl (λe=>by omega)),show off+1+i=off+(i+1)by omega]
    exact H4.out (i+1) y e
theorem iD(b:Nat)(s:Wd)(g:Bool)(w:World)(h:bI w b s):
  Calls prog 213 #[.pointer (some ⟨b,0,none⟩),.bool g] w λe w'=>e=.returned (.tuple #[])/\bI w' b (s.check g)/\Fr (ig b) w w':=by
 obtain⟨left,wrong⟩:=s
 have iG:∀u:Bool,u=(wrong||!g)->bI (w.setCell ⟨b,1,none⟩ (.bool u)) b (Wd.check ⟨left,wrong⟩ g)/\Fr (ig b) w (w.setCell ⟨b,1,none⟩ (.bool u)):=λu hu=>by
  obtain⟨⟨sb,off,cap,e0,e1,e2,e4⟩,c1,f0,f1⟩:=h
  refine⟨⟨⟨sb,off,cap,(aK w _ (.inr (by decide))).trans e0,e1,e2,λi x e=>(aK w _ (.inl (λe=>by omega))).trans (e4 i x e)⟩,?_,by rw[World.frozen?_setCell];exact f0,by rw[World.frozen?_setCell];exact f1⟩,jQ b w _ _⟩
  rw[cell_eq c1,hu];rfl
 have c1:=h.c1
 have f1:=h.f1
 have HF:Hid _:=iG
 clear iG h
 cases wrong<;>cases g<;>
 ·dsimp only at c1
  go_enter func213,ntmps213
  go_wp2
  go_end0
  exact⟨rfl,HF.out _ rfl⟩
end
section
open Go.RowKit
structure Gl(w:World):Prop where
 sz:7<w.heap.size
 m1:∃m,w.cell? ⟨1,0,none⟩=some (.int .i64 m)
 t3:w.cell? ⟨3,15,none⟩=some (.int .u8 4)
 e6:∃te pe,w.cell? ⟨6,0,none⟩=some (.iface te pe)
 e7:∃te pe,w.cell? ⟨7,0,none⟩=some (.iface te pe)
 tab:Lib.TabIs prog w "internal/strconv.uint64pow10" .u64 Lib.pow10Tab
theorem Ns:prog.globalNamed "internal/strconv.uint64pow10"=some 0:=by kernel_rfl
variable {n:Nat}
theorem Gl.below{A B:World}(g:Gl A)(h:Below n A B)(hn:7<n):Gl B:=by
 obtain⟨sz,⟨m,m1⟩,t3,⟨te,pe,e6⟩,⟨Wa,VX,e7⟩,tab⟩:=g
 refine⟨Nat.lt_of_lt_of_le sz h.size,⟨m,(h.cell (p:=⟨1,0,none⟩) (show 1<n by omega)).trans m1⟩,(h.cell (p:=⟨3,15,none⟩) (show 3<n by omega)).trans t3,⟨te,pe,(h.cell (p:=⟨6,0,none⟩) (show 6<n by omega)).trans e6⟩,⟨Wa,VX,(h.cell (p:=⟨7,0,none⟩) hn).trans e7⟩,?_⟩
 have:=h.block 0 (by omega)
 unfold Lib.TabIs World.var? at tab⊢
 rw[Ns]at tab⊢
 simp only[Option.bind_some]at tab⊢
 rw[this]
 exact tab
variable {M:Nat->Nat->Prop}
theorem Gl.fr{A B:World}(g:Gl A)(h:Fr M A B)(hm:∀b i,b<8->¬M b i):Gl B:=g.below (h.below g.sz hm) (by decide)
theorem eqS(t s:ByteArray):(t.toList==s.toList)=decide (t=s):=by
 rw[ByteArray.toList_eq,ByteArray.toList_eq]
 by_cases h:t=s
 ·subst h;simp
 ·rw[decide_eq_false h,beq_eq_false_iff_ne]
  intro e
  exact h (by cases t;cases s;simp at e;rw[e])
def bL(s:ByteArray):Int:=match Lib.atoiAll s.data.toList with| .ok v=>v| .syntax=>0| .range=>Lib.atoiSat s.data.toList
def aO(s:ByteArray):Bool:=match Lib.atoiAll s.data.toList with| .ok v=>decide ((⟨(Lib.itoa v).toArray⟩:ByteArray)=s)|_=>false
theorem ya{l:List UInt8}{v:Int}(h:Lib.atoiAll l=.ok v): -9223372036854775808<=v/\v<=9223372036854775807:=by
 unfold Lib.atoiAll at h
 split at h
 ·cases h
 ·dsimp only at h
  split at h
  ·cases h
  ·cases h
  ·split at h
   ·cases h
   ·split at h
    ·cases h
    ·cases h
     split<;>omega
variable {b:Nat}
theorem bI.fr{A B:World}(h:Fr M A B){s:Wd}(k:bI A b s)(hm:∀c i,c<=b->¬M c i):bI B b s:=by
 obtain⟨⟨sb,off,cap,e0,e1,e2,e4⟩,c1,f0,f1⟩:=k
 have hb:b<A.heap.size:=dz A ⟨b,1,none⟩ c1
 exact⟨⟨sb,off,cap,(h.cell b 0 hb (hm _ _ aM)).trans e0,e1,e2,λi x e=>(h.cell sb (off+i) (by omega) (hm _ _ (by omega))).trans (e4 i x e)⟩,(h.cell b 1 hb (hm _ _ aM)).trans c1,(h.frozen b 0 hb (hm _ _ aM)).trans f0,(h.frozen b 1 hb (hm _ _ aM)).trans f1⟩
theorem Ev(w:World)(k:Nat)(os:Array Obj):Below w.heap.size w (Sort.grow (w.drewN k) os):=by
 refine⟨rfl,rfl,rfl,by simp[Sort.grow],λi hi=>?_⟩
 simp only[Sort.grow]
 rw[Array.getElem?_append_left (show i<(w.drewN k).heap.size from hi)]
 rfl
theorem BH(n:Int)(h0: -9223372036854775808<=n)(h1:n<=9223372036854775807)(w:World)(g:Gl w):
  Calls prog 96 #[.int .i64 n] w λe w'=>e=.returned (.string ⟨(Lib.itoa n).toArray⟩)/\Below w.heap.size w w':=
 (Tryz.strconv_Itoa n h0 h1 w g.tab).mono λ_ _ ⟨he,k,os,hw⟩=>⟨he,hw▸Ev w k os⟩
theorem OL(s:ByteArray)(hs:s.size<=1000)(v:Int)(h:Lib.atoiAll s.data.toList=.ok v)(w:World):
  Calls prog 240 #[.string s] w λe w'=>e=.returned (.tuple #[.int .i64 v,.nilIface])/\Below w.heap.size w w':=
 (Tryz.strconv_Atoi_ok s (by omega) v h w).mono λ_ _ ⟨he,hw⟩=>⟨he,hw.elim (λe=>e▸bK) λ⟨t,e⟩=>e▸Lib.bytesWorld_below _ _ _⟩
theorem OJ(s:ByteArray)(hs:s.size<=1000)(h:∀v,Lib.atoiAll s.data.toList≠.ok v)(w:World)(g:Gl w):
  Calls prog 240 #[.string s] w λe w'=>∃p,e=.returned (.tuple #[.int .i64 (bL s),.iface 352 p])/\Below w.heap.size w w':=by
 obtain⟨te,pe,e6⟩:=g.e6
 obtain⟨Wa,VX,e7⟩:=g.e7
 match hq:Lib.atoiAll s.data.toList with
 | .ok v=>exact absurd hq (h v)
 | .syntax=>
  refine(Tryz.strconv_Atoi_syntax s (by omega) hq _ w e6 (.inr ⟨te,pe,rfl⟩)).mono ?_
  rintro e w' ⟨N,rfl,_,_,hb⟩
  exact⟨_,by rw[bL,hq],hb⟩
 | .range=>
  refine(Tryz.strconv_Atoi_range s (by omega) hq _ w e7 (.inr ⟨Wa,VX,rfl⟩)).mono ?_
  rintro e w' ⟨N,rfl,_,_,hb⟩
  exact⟨_,by rw[bL,hq],hb⟩
theorem qu(b:Nat)(st:Wd)(s:ByteArray)(hs:s.size<=1000)(w:World)(g:Gl w)(h:bI w b st):
  Calls prog 231 #[.pointer (some ⟨b,0,none⟩),.string s] w λe w'=>e=.returned (.int .i64 (bL s))/\bI w' b (st.check (aO s))/\Fr (ig b) w w':=by
 have HG:=af g
 have HW:=af h
 clear g h
 by_cases hq:∃v,Lib.atoiAll s.data.toList=.ok v
 ·obtain⟨v,hq⟩:=hq
  obtain⟨r1,r2⟩:=ya hq
  have HV:Hid (bL s=v):=by show bL s=v;rw[bL,hq]
  have HO:Hid (aO s=decide ((⟨(Lib.itoa v).toArray⟩:ByteArray)=s)):=by show aO s=_;rw[aO,hq]
  have HA:=OL s hs v hq w
  have Ww:Hid _:=HA
  clear HA hq
  by_cases hi:(⟨(Lib.itoa v).toArray⟩:ByteArray)=s
  ·have HI:=af hi
   clear hi
   go_enter func231,ntmps231
   go_wp2_with (first
    |(go_at_call 240;refine aq Ww.out ?_;rintro e w1 ⟨rfl,hb1⟩;dsimp only)
    |(go_at_call 96;refine(BH v r1 r2 _ (HG.out.below hb1 HG.out.sz)).mono ?_;rintro e w2 ⟨rfl,hb2⟩;dsimp only;rw[HI.out];have hB2:Below w.heap.size w w2:=hb1.trans (hb2.mono hb1.size))
    |(go_at_call 213;refine(iD b st true _ (HW.out.below hB2 aM)).mono ?_;rintro e w3 ⟨rfl,hw3,hb3⟩;dsimp only))
   go_ret
   rw[HV.out,HO.out,decide_eq_true HI.out]
   exact⟨rfl,hw3,(Fr.of_below hB2).trans hb3⟩
  ·obtain⟨t,ht⟩:∃t,(⟨(Lib.itoa v).toArray⟩:ByteArray)=t:=⟨_,rfl⟩
   rw[ht]at hi HO
   have HT:=af ht
   have HI:=af hi
   clear ht
   go_enter func231,ntmps231
   go_wp2_with (first
    |(go_at_call 240;refine aq Ww.out ?_;rintro e w1 ⟨rfl,hb1⟩;dsimp only)
    |(go_at_call 96;refine(BH v r1 r2 _ (HG.out.below hb1 HG.out.sz)).mono ?_;rintro e w2 ⟨rfl,hb2⟩;dsimp only;rw[HT.out];have hB2:Below w.heap.size w w2:=hb1.trans (hb2.mono hb1.size))
    |(go_at_call 213;refine(iD b st _ _ (HW.out.below hB2 aM)).mono ?_;rintro e w3 ⟨rfl,hw3,hb3⟩;dsimp only))
   go_ret
   rw[HV.out,HO.out]
   rw[eqS]at hw3
   exact⟨rfl,hw3,(Fr.of_below hB2).trans hb3⟩
 ·have HO:Hid (aO s=false):=by
   show aO s=false
   rw[aO]
   split
   ·rename_i v e;exact absurd ⟨v,e⟩ hq
   ·rfl
  have Ww:Hid _:=OJ s hs (λv e=>hq ⟨v,e⟩) w HG.out
  clear hq
  go_enter func231,ntmps231
  go_wp2_with (first
   |(go_at_call 240;refine aq Ww.out ?_;rintro e w1 ⟨p,rfl,hb1⟩;dsimp only)
   |(go_at_call 213;refine(iD b st false _ (HW.out.below hb1 aM)).mono ?_;rintro e w3 ⟨rfl,hw3,hb3⟩;dsimp only))
  go_ret
  rw[HO.out]
  exact⟨rfl,hw3,(Fr.of_below hb1).trans hb3⟩
def Wd.short(s:Wd):Prop:=∀x∈s.left,x.size<=1000
theorem Wd.dO{s:Wd}(h:s.short):s.next.1.size<=1000/\s.next.2.short:=by
 obtain⟨left,wrong⟩:=s
 cases left with
 |nil=>exact⟨by simp[Wd.next,ByteArray.size],λx hx=>by simp[Wd.next]at hx⟩
 |cons y ys=>exact⟨h y (by simp),λx hx=>h x (by simp[Wd.next]at hx;simp[hx])⟩
theorem Gl.Ni{A B:World}(g:Gl A)(h:Fr (ig b) A B)(hb:8<=b):Gl B:=g.fr h λk _ hk e=>by
 have:k=b:=e
 omega
def Wd.number(s:Wd):Int×Wd:=(bL s.next.1,s.next.2.check (aO s.next.1))
theorem wT(b:Nat)(st:Wd)(hs:st.short)(w:World)(g:Gl w)(hb:8<=b)(h:bI w b st):
  Calls prog 212 #[.pointer (some ⟨b,0,none⟩)] w λe w'=>e=.returned (.int .i64 st.number.1)/\bI w' b st.number.2/\Fr (ig b) w w':=by
 have HG:=af g
 have HW:=af h
 have HS:Hid st.short:=hs
 clear g h hs
 go_enter func212,ntmps212
 go_wp2_with (first
  |(go_at_call 196;refine(iV b st _ HW.out).mono ?_;rintro e w1 ⟨rfl,hw1,hb1⟩;dsimp only)
  |(go_at_call 231;refine(qu b _ _ (Wd.dO HS.out).1 _ (HG.out.Ni hb1 hb) hw1).mono ?_;rintro e w2 ⟨rfl,hw2,hb2⟩;dsimp only))
 go_ret
 exact⟨rfl,hw2,hb1.trans hb2⟩
def Wd.id(s:Wd):Int×Wd:=(s.number.1,s.number.2.check (fP s.number.1 1 99))
theorem Ta(b:Nat)(st:Wd)(hs:st.short)(w:World)(g:Gl w)(hb:8<=b)(h:bI w b st):
  Calls prog 200 #[.pointer (some ⟨b,0,none⟩)] w λe w'=>e=.returned (.int .i64 st.id.1)/\bI w' b st.id.2/\Fr (ig b) w w':=by
 have HN:Hid _:=wT b st hs w g hb h
 clear g h hs
 go_enter func200,ntmps200
 go_wp2_with (first
  |(go_at_call 212;refine aq HN.out ?_;rintro e w1 ⟨rfl,hw1,hb1⟩;dsimp only)
  |(go_at_call 81;refine(kR _ _).mono ?_;rintro e w2 ⟨rfl,rfl⟩;dsimp only)
  |(go_at_call 213;refine(iD b _ _ _ hw1).mono ?_;rintro e w3 ⟨rfl,hw3,hb3⟩;dsimp only))
 go_ret
 exact⟨rfl,hw3,hb1.trans hb3⟩
def Wd.mark(s:Wd):ByteArray×Wd:=match s.left with|[]=>(⟨#[]⟩,s)|x::xs=>(x,(⟨xs,s.wrong⟩:Wd).check (decide (x.size=8)))
theorem V8(n:Nat):((n:Int)==8)=decide (n=8):=by
 by_cases h:n=8
 ·subst h;rfl
 ·rw[decide_eq_false h,beq_eq_false_iff_ne];omega
variable {w:World}
theorem bI.bad{s:Wd}(h:bI w b s):bI (w.setCell ⟨b,1,none⟩ (.bool true)) b ⟨s.left,true⟩:=by
 obtain⟨⟨sb,off,cap,e0,e1,e2,e4⟩,c1,f0,f1⟩:=h
 exact⟨⟨sb,off,cap,(aK w _ (.inr (by decide))).trans e0,e1,e2,λi x e=>(aK w _ (.inl (λe=>by omega))).trans (e4 i x e)⟩,cell_eq c1 _,by rw[World.frozen?_setCell];exact f0,by rw[World.frozen?_setCell];exact f1⟩
theorem M9(b:Nat)(st:Wd)(w:World)(h:bI w b st):
  Calls prog 198 #[.pointer (some ⟨b,0,none⟩)] w λe w'=>e=.returned (.string st.mark.1)/\bI w' b st.mark.2/\Fr (ig b) w w':=by
 have HW:=af h
 obtain⟨⟨sb,off,cap,e0,_⟩,_⟩:=h
 obtain⟨left,wrong⟩:=st
 cases left with
 |nil=>
  simp only[List.length_nil]at e0
  go_enter func198,ntmps198
  go_wp2
  go_ret
  exact⟨rfl,HW.out,Fr.refl _ _⟩
 |cons x xs=>
  simp only[List.length_cons]at e0
  obtain⟨n,hn⟩:∃n,xs.length=n:=⟨_,rfl⟩
  rw[hn]at e0
  clear hn
  go_enter func198,ntmps198
  go_wp2_with (first
   |(go_at_call 196;refine(iV b ⟨x::xs,wrong⟩ _ HW.out).mono ?_;rintro e w1 ⟨rfl,hw1,hb1⟩;dsimp only[Wd.next])
   |(go_at_call 213;refine(iD b _ _ _ hw1).mono ?_;rintro e w3 ⟨rfl,hw3,hb3⟩;dsimp only))
  go_ret
  rw[V8]at hw3
  exact⟨rfl,hw3,hb1.trans hb3⟩
def dr(x:ByteArray):Int:=if(x.toList==[112,111,105,110,116])=true then 1 else if(x.toList==[108,105,110,101])=true then 2 else if(x.toList==[97,114,101,97])=true then 3 else 0
def Wd.kind(s:Wd):Int×Wd:=(dr s.next.1,if dr s.next.1=0 then⟨s.next.2.left,true⟩else s.next.2)
theorem MZ(b:Nat)(st:Wd)(w:World)(h:bI w b st):
  Calls prog 214 #[.pointer (some ⟨b,0,none⟩)] w λe w'=>e=.returned (.int .i64 st.kind.1)/\bI w' b st.kind.2/\Fr (ig b) w w':=by
 have HN:Hid _:=iV b st w h
 clear h
 obtain⟨x,hx⟩:∃x,st.next.1=x:=⟨_,rfl⟩
 have HX:=af hx
 have HF:Hid (∀W:World,∀k:Int,dr x=k->k≠0->bI W b st.next.2->Fr (ig b) w W->Ending.returned (Value.int .i64 k)=.returned (.int .i64 st.kind.1)/\bI W b st.kind.2/\Fr (ig b) w W):=λW k e h0 h1 h2=>by
  rw[Wd.kind,hx,e,if_neg h0]
  exact⟨rfl,h1,h2⟩
 have HZ:Hid (dr x=0->st.kind=(0,⟨st.next.2.left,true⟩)):=λe=>by rw[Wd.kind,hx,e,if_pos rfl]
 clear hx
 by_cases h1:(x.toList==[112,111,105,110,116])=true
 ·have HK:Hid (dr x=1):=by show dr x=1;rw[dr,if_pos h1]
  go_enter func214,ntmps214
  go_wp2_with (first
   |(go_at_call 196;refine aq HN.out ?_;rintro e w1 ⟨rfl,hw1,hb1⟩;dsimp only;rw[HX.out]))
  go_ret
  exact HF.out w1 1 HK.out (by decide) hw1 hb1
 ·have h1':(x.toList==[112,111,105,110,116])=false:=by simpa using h1
  by_cases h2:(x.toList==[108,105,110,101])=true
  ·have HK:Hid (dr x=2):=by show dr x=2;rw[dr,if_neg h1,if_pos h2]
   clear h1
   go_enter func214,ntmps214
   go_wp2_with (first
    |(go_at_call 196;refine aq HN.out ?_;rintro e w1 ⟨rfl,hw1,hb1⟩;dsimp only;rw[HX.out]))
   go_ret
   exact HF.out w1 2 HK.out (by decide) hw1 hb1
  ·have h2':(x.toList==[108,105,110,101])=false:=by simpa using h2
   by_cases h3:(x.toList==[97,114,101,97])=true
   ·have HK:Hid (dr x=3):=by show dr x=3;rw[dr,if_neg h1,if_neg h2,if_pos h3]
    clear h1 h2
    go_enter func214,ntmps214
    go_wp2_with (first
     |(go_at_call 196;refine aq HN.out ?_;rintro e w1 ⟨rfl,hw1,hb1⟩;dsimp only;rw[HX.out]))
    go_ret
    exact HF.out w1 3 HK.out (by decide) hw1 hb1
   ·have h3':(x.toList==[97,114,101,97])=false:=by simpa using h3
    have HK:Hid (dr x=0):=by show dr x=0;rw[dr,if_neg h1,if_neg h2,if_neg h3]
    clear h1 h2 h3
    go_enter func214,ntmps214
    go_wp2_with (first
     |(go_at_call 196;refine aq HN.out ?_;rintro e w1 ⟨rfl,hw1,hb1⟩;dsimp only;rw[HX.out];have c1:=hw1.c1;have f1:=hw1.f1))
    go_ret
    rw[HZ.out HK.out]
    exact⟨rfl,hw1.bad,hb1.trans (jQ b w1 _ _)⟩
structure Tl where
 z:Int
 c:Int
 r:Int
 deriving DecidableEq
def Wd.l_(s:Wd):Tl×Wd:=
 (⟨s.number.1,s.number.2.number.1,s.number.2.number.2.number.1⟩,s.number.2.number.2.number.2.check (cC s.number.1 s.number.2.number.1 s.number.2.number.2.number.1))
theorem Wd.dh{s:Wd}(h:s.short):s.number.2.short:=(Wd.dO h).2
theorem gH(g:Gl w)(hb:8<=b)(W:World)(s:Wd)(hs:s.short)(hF:Fr (ig b) w W)(h:bI W b s):
  Calls prog 212 #[.pointer (some ⟨b,0,none⟩)] W λe w'=>e=.returned (.int .i64 s.number.1)/\bI w' b s.number.2/\Fr (ig b) w w':=
 (wT b s hs W (g.Ni hF hb) hb h).mono λ_ _ ⟨he,hw,hf⟩=>⟨he,hw,hF.trans hf⟩
theorem bI.alloc{s:Wd}(h:bI w b s)(o:Obj):bI (w.alloc o) b s:=h.below (bK.alloc aM o) aM
structure K3(w:World)(b:Nat)(v0 v1 v2:Value):Prop where
 c0:w.cell? ⟨b,0,none⟩=some v0
 c1:w.cell? ⟨b,1,none⟩=some v1
 c2:w.cell? ⟨b,2,none⟩=some v2
 f0:w.frozen? ⟨b,0,none⟩=false
 f1:w.frozen? ⟨b,1,none⟩=false
 f2:w.frozen? ⟨b,2,none⟩=false
theorem K3.new(w:World)(v0 v1 v2:Value)(t:TypeId):K3 (w.alloc (.cells #[v0,v1,v2] t)) w.heap.size v0 v1 v2:=by
 constructor<;>simp[go_sem]
variable {v0 v1 v2:Value}
theorem K3.lt(k:K3 w b v0 v1 v2):b<w.heap.size:=dz w ⟨b,0,none⟩ k.c0
theorem K3.fr{A B:World}(h:Fr M A B)(k:K3 A b v0 v1 v2)(hm:∀i,¬M b i):K3 B b v0 v1 v2:=
 ⟨(h.cell b 0 k.lt (hm _)).trans k.c0,(h.cell b 1 k.lt (hm _)).trans k.c1,(h.cell b 2 k.lt (hm _)).trans k.c2,(h.frozen b 0 k.lt (hm _)).trans k.f0,(h.frozen b 1 k.lt (hm _)).trans k.f1,(h.frozen b 2 k.lt (hm _)).trans k.f2⟩
theorem K3.below{A B:World}(h:Below n A B)(hn:A.heap.size<=n)(k:K3 A b v0 v1 v2):K3 B b v0 v1 v2:=
 k.fr (M:=λ_ _=>False) (Fr.of_below (h.mono hn)) (λ_ e=>e)
theorem Dr(w:World)(b:Nat)(u0 u1 u2:Value):Fr (ig b) w (((w.setCell ⟨b,0,none⟩ u0).setCell ⟨b,1,none⟩ u1).setCell ⟨b,2,none⟩ u2):=
 ((jQ b w 0 u0).setCell (b:=b) (i:=1) (.inl rfl) u1).setCell (b:=b) (i:=2) (.inl rfl) u2
theorem Og(b:Nat)(st:Wd)(hs:st.short)(w:World)(g:Gl w)(hb:8<=b)(h:bI w b st):
  Calls prog 197 #[.pointer (some ⟨b,0,none⟩)] w λe w'=>e=.returned (.agg #[.int .i64 st.l_.1.z,.int .i64 st.l_.1.c,.int .i64 st.l_.1.r])/\bI w' b st.l_.2/\Fr (ig b) w w':=by
 have HL:Hid (b<w.heap.size):=h.lt
 have HB:Hid (¬w.heap.size=b):=λe=>by have:=h.lt;omega
 have HW:Hid (bI (w.alloc (.cells #[.int .i64 0,.int .i64 0,.int .i64 0] 24)) b st):=h.alloc _
 have HG:Hid (Gl (w.alloc (.cells #[.int .i64 0,.int .i64 0,.int .i64 0] 24))):=g.below aU g.sz
 have HK:Hid (K3 (w.alloc (.cells #[.int .i64 0,.int .i64 0,.int .i64 0] 24)) w.heap.size (.int .i64 0) (.int .i64 0) (.int .i64 0)):=K3.new _ _ _ _ _
 have HS:Hid st.short:=hs
 clear g h hs
 go_enter func197,ntmps197
 go_wp2_with (first
  |(go_at_call 212;refine(gH HG.out hb _ _ (Wd.dh (Wd.dh HS.out)) hf2 hw2).mono ?_;rintro e w3 ⟨rfl,hw3,hf3⟩;dsimp only)
  |(go_at_call 212;refine(gH HG.out hb _ _ (Wd.dh HS.out) iL hw1).mono ?_;rintro e w2 ⟨rfl,hw2,hf2⟩;dsimp only)
  |(go_at_call 212;refine(gH HG.out hb _ _ HS.out (Fr.refl _ _) HW.out).mono ?_;rintro e w1 ⟨rfl,hw1,iL⟩;dsimp only)
  |(go_at_call 29;refine(D_ _ _ _ _).mono ?_;rintro e w4 ⟨rfl,hb4⟩;dsimp only)
  |(go_at_call 213;refine(iD b _ _ _ ((hw3.alloc _).below hb4 aM)).mono ?_;rintro e w5 ⟨rfl,S8,hb5⟩;dsimp only;have Yx:=(hf3.alloc _).trans (Fr.of_below hb4);have yj:=Yx.trans hb5;obtain⟨r0,r1,r2,r3,r4,r5⟩:=HK.out.fr yj (λ_ e=>HB.out e);have g_:Hid (¬w3.heap.size=b):=(λe=>by have:=hw3.lt;omega);obtain⟨t0,t1,t2,_,_,_⟩:=((K3.new w3 _ _ _ _).below hb4 aM).fr hb5 (λ_ e=>g_.out e)))
 refine bodyPost_ret (v:=.agg #[.int .i64 _,.int .i64 _,.int .i64 _]) (by simp[results,results197,go_sem,r0,r1,r2];exact⟨rfl,rfl,rfl⟩) rfl ⟨rfl,?_,?_⟩
 ·exact S8.fr (Dr w5 w.heap.size _ _ _) (λc _ hc e=>by have:c=w.heap.size:=e;have:=HL.out;omega)
 ·exact(((Fr.refl _ w).alloc _).trans yj).aC (Dr w5 w.heap.size _ _ _) (λc _ hc e=>by have:c=w.heap.size:=e;omega)
end
end Go.Proofs.YtenaepdmlknlcaaGreatDoor
