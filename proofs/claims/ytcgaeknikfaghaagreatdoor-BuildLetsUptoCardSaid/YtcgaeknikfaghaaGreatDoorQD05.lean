/- What the proofs of this claim use, text by text. -/
import Derived.Shelf.Strings.Builder1
import Derived.Shelf.Strings.Builder2
import Derived.Shelf.Strings.BuilderF
import Derived.Shelf.Strings.BuilderK
import Derived.Shelf.Strings.Builder2Cap
import Derived.Shelf.Strconv.Itoa0
import Derived.Shelf.Strconv.Itoa1
import Derived.Shelf.LaysM
import Derived.Shelf.Strconv.Itoa2
import Derived.Shelf.Strconv.Clone
import Derived.Shelf.Strconv.SyntaxError
import Derived.Shelf.LaysC
import Derived.Shelf.Strconv.ToError
import Derived.Shelf.Strings.Search1
import Derived.Shelf.Strings.Search2
import Derived.Shelf.Strings.Search3
import Derived.Shelf.Strings.Cut
import Derived.Shelf.Strings.Count
import Derived.Shelf.Strings.Shaped
import Derived.Shelf.Strconv.AppendUint10
import Derived.Shelf.Strconv.AppendInt10
import Derived.Shelf.Strconv.AppendIntPublic10
import Derived.Shelf.Strings.Prefix
import Derived.Shelf.Strings.Split
import Derived.Shelf.Strings.Replace
import Derived.Shelf.Strings.SplitShaped
import Derived.Shelf.Unicode.DecodeSlow
import Derived.Shelf.Strings.BuilderCap
import Derived.Test.YtcgaeknikfaghaaGreatDoorProg
import Derived.WalkKit
set_option linter.unusedSimpArgs false
set_option linter.unusedVariables false
set_option maxRecDepth 100000
set_option maxHeartbeats 25600000
namespace Go.Proofs
open Go.Shelf
def Tryz.lays169_ren:Go.Shelf.Ren:=⟨fun|169=>58|n=>n,fun|70=>108|9=>9|0=>0|72=>111|37=>109|127=>155|3=>3|5=>5|n=>n,fun|n=>n⟩
theorem Tryz.lays169:Go.Proofs.Lays.n169 Tryz.prog Tryz.lays169_ren:={
 mixed:=by kernel_rfl
 f169:=Tryz.func58.trans (congrArg some (by kernel_rfl))
 t0:=Tryz.underlying0
 a0:=Tryz.isAgg0
 z0:=Tryz.sizeOf0
 v0:=Tryz.zeroValue0
 t3:=Tryz.underlying3
 a3:=Tryz.isAgg3
 z3:=Tryz.sizeOf3
 v3:=Tryz.zeroValue3
 t9:=Tryz.underlying9
 a9:=Tryz.isAgg9
 z9:=Tryz.sizeOf9
 v9:=Tryz.zeroValue9
 t37:=Tryz.underlying109
 a37:=Tryz.isAgg109
 z37:=Tryz.sizeOf109
 v37:=Tryz.zeroValue109
 t70:=Tryz.underlying108
 a70:=Tryz.isAgg108
 z70:=Tryz.sizeOf108
 v70:=Tryz.zeroValue108
 t72:=Tryz.underlying111
 a72:=Tryz.isAgg111
 z72:=Tryz.sizeOf111
 v72:=Tryz.zeroValue111
 t127:=Tryz.underlying155
 a127:=Tryz.isAgg155
 z127:=Tryz.sizeOf155
 v127:=Tryz.zeroValue155 }
theorem Tryz.Builder_Extra_169:Builder.Extra Tryz.prog Tryz.lays169_ren:={
 sizeBuilder:=by kernel_rfl
 liesBuilder:=by kernel_rfl
 t5:=Tryz.underlying5
 a5:=Tryz.isAgg5
 z5:=Tryz.sizeOf5
 v5:=Tryz.zeroValue5
 infoByte:=by kernel_rfl
 cellsByte:=by kernel_rfl
 sizeByte:=by kernel_rfl
 neB5:=by decide }
open Go.RowKit in
theorem Tryz.Builder_String_any (B b:Nat) (l:List UInt8) (w:World) (h:Lib.IsBuilder 111 5 B b (Lib.byteCells l) w) (hBw:B≤w.heap.size):
 Calls Tryz.prog 58 #[.pointer (some ⟨b,0,none⟩)] w fun e w'=>e=.returned (.string ⟨l.toArray⟩)∧Below B w w':=Any.Builder_String_any Tryz.lays169 Tryz.Builder_Extra_169 B b l w h hBw
def Tryz.laysC245_ren:Go.Shelf.Ren:=⟨fun|245=>236|279=>248|280=>249|281=>250|282=>251|316=>257|171=>259|205=>258|243=>265|246=>268|283=>252|284=>253|285=>254|286=>255|129=>261|317=>260|318=>262|319=>263|320=>264|337=>266|338=>267|n=>n,fun|9=>9|3=>3|75=>151|167=>291|4=>4|168=>293|210=>304|37=>109|0=>0|127=>155|145=>311|143=>309|2=>2|171=>297|53=>250|5=>5|173=>300|212=>306|51=>173|20=>20|213=>307|46=>263|232=>314|233=>315|80=>113|n=>n,fun|15=>4|16=>5|17=>6|18=>7|19=>8|n=>n⟩
theorem Tryz.laysC245:Go.Proofs.LaysC.n245 Tryz.prog Tryz.laysC245_ren:={
 mixed:=by kernel_rfl
 f129:=Tryz.func261.trans (congrArg some (by kernel_rfl))
 f171:=Tryz.func259.trans (congrArg some (by kernel_rfl))
 f205:=Tryz.func258.trans (congrArg some (by kernel_rfl))
 f243:=Tryz.func265.trans (congrArg some (by kernel_rfl))
 f245:=Tryz.func236.trans (congrArg some (by kernel_rfl))
 f246:=Tryz.func268.trans (congrArg some (by kernel_rfl))
 f279:=Tryz.func248.trans (congrArg some (by kernel_rfl))
 f280:=Tryz.func249.trans (congrArg some (by kernel_rfl))
 f281:=Tryz.func250.trans (congrArg some (by kernel_rfl))
 f282:=Tryz.func251.trans (congrArg some (by kernel_rfl))
 f283:=Tryz.func252.trans (congrArg some (by kernel_rfl))
 f284:=Tryz.func253.trans (congrArg some (by kernel_rfl))
 f285:=Tryz.func254.trans (congrArg some (by kernel_rfl))
 f286:=Tryz.func255.trans (congrArg some (by kernel_rfl))
 f316:=Tryz.func257.trans (congrArg some (by kernel_rfl))
 f317:=Tryz.func260.trans (congrArg some (by kernel_rfl))
 f318:=Tryz.func262.trans (congrArg some (by kernel_rfl))
 f319:=Tryz.func263.trans (congrArg some (by kernel_rfl))
 f320:=Tryz.func264.trans (congrArg some (by kernel_rfl))
 f337:=Tryz.func266.trans (congrArg some (by kernel_rfl))
 f338:=Tryz.func267.trans (congrArg some (by kernel_rfl))
 t0:=Tryz.underlying0
 a0:=Tryz.isAgg0
 z0:=Tryz.sizeOf0
 v0:=Tryz.zeroValue0
 t2:=Tryz.underlying2
 a2:=Tryz.isAgg2
 z2:=Tryz.sizeOf2
 v2:=Tryz.zeroValue2
 t3:=Tryz.underlying3
 a3:=Tryz.isAgg3
 z3:=Tryz.sizeOf3
 v3:=Tryz.zeroValue3
 t4:=Tryz.underlying4
 a4:=Tryz.isAgg4
 z4:=Tryz.sizeOf4
 v4:=Tryz.zeroValue4
 t5:=Tryz.underlying5
 a5:=Tryz.isAgg5
 z5:=Tryz.sizeOf5
 v5:=Tryz.zeroValue5
 t9:=Tryz.underlying9
 a9:=Tryz.isAgg9
 z9:=Tryz.sizeOf9
 v9:=Tryz.zeroValue9
 t20:=Tryz.underlying20
 a20:=Tryz.isAgg20
 z20:=Tryz.sizeOf20
 v20:=Tryz.zeroValue20
 t37:=Tryz.underlying109
 a37:=Tryz.isAgg109
 z37:=Tryz.sizeOf109
 v37:=Tryz.zeroValue109
 t46:=Tryz.underlying263
 a46:=Tryz.isAgg263
 z46:=Tryz.sizeOf263
 v46:=Tryz.zeroValue263
 t51:=Tryz.underlying173
 a51:=Tryz.isAgg173
 z51:=Tryz.sizeOf173
 v51:=Tryz.zeroValue173
 t53:=Tryz.underlying250
 a53:=Tryz.isAgg250
 z53:=Tryz.sizeOf250
 v53:=Tryz.zeroValue250
 t75:=Tryz.underlying151
 a75:=Tryz.isAgg151
 z75:=Tryz.sizeOf151
 v75:=Tryz.zeroValue151
 t127:=Tryz.underlying155
 a127:=Tryz.isAgg155
 z127:=Tryz.sizeOf155
 v127:=Tryz.zeroValue155
 t143:=Tryz.underlying309
 a143:=Tryz.isAgg309
 z143:=Tryz.sizeOf309
 v143:=Tryz.zeroValue309
 t145:=Tryz.underlying311
 a145:=Tryz.isAgg311
 z145:=Tryz.sizeOf311
 v145:=Tryz.zeroValue311
 t167:=Tryz.underlying291
 a167:=Tryz.isAgg291
 z167:=Tryz.sizeOf291
 v167:=Tryz.zeroValue291
 t168:=Tryz.underlying293
 a168:=Tryz.isAgg293
 z168:=Tryz.sizeOf293
 v168:=Tryz.zeroValue293
 t171:=Tryz.underlying297
 a171:=Tryz.isAgg297
 z171:=Tryz.sizeOf297
 v171:=Tryz.zeroValue297
 t173:=Tryz.underlying300
 a173:=Tryz.isAgg300
 z173:=Tryz.sizeOf300
 v173:=Tryz.zeroValue300
 t210:=Tryz.underlying304
 a210:=Tryz.isAgg304
 z210:=Tryz.sizeOf304
 v210:=Tryz.zeroValue304
 t212:=Tryz.underlying306
 a212:=Tryz.isAgg306
 z212:=Tryz.sizeOf306
 v212:=Tryz.zeroValue306
 t213:=Tryz.underlying307
 a213:=Tryz.isAgg307
 z213:=Tryz.sizeOf307
 t232:=Tryz.underlying314
 a232:=Tryz.isAgg314
 z232:=Tryz.sizeOf314
 v232:=Tryz.zeroValue314
 t233:=Tryz.underlying315
 a233:=Tryz.isAgg315
 z233:=Tryz.sizeOf315
 v233:=Tryz.zeroValue315
 g15:=by kernel_rfl
 g16:=by kernel_rfl
 g17:=by kernel_rfl
 g18:=by kernel_rfl
 g19:=by kernel_rfl
 t80:=Tryz.underlying113
 a80:=Tryz.isAgg113
 z80:=Tryz.sizeOf113
 v80:=Tryz.zeroValue113
 i0:=by kernel_rfl
 i2:=by kernel_rfl
 i3:=by kernel_rfl
 i4:=by kernel_rfl
 i5:=by kernel_rfl
 i9:=by kernel_rfl
 i20:=by kernel_rfl
 i37:=by kernel_rfl
 i46:=by kernel_rfl
 i51:=by kernel_rfl
 i53:=by kernel_rfl
 i75:=by kernel_rfl
 i80:=by kernel_rfl
 i127:=by kernel_rfl
 i143:=by kernel_rfl
 i145:=by kernel_rfl
 i167:=by kernel_rfl
 i168:=by kernel_rfl
 i171:=by kernel_rfl
 i173:=by kernel_rfl
 i210:=by kernel_rfl
 i212:=by kernel_rfl
 i232:=by kernel_rfl
 i233:=by kernel_rfl
 m15:=by kernel_rfl
 m16:=by kernel_rfl
 m17:=by kernel_rfl
 m18:=by kernel_rfl
 m19:=by kernel_rfl
 c0:=by kernel_rfl
 c2:=by kernel_rfl
 c3:=by kernel_rfl
 c4:=by kernel_rfl
 c5:=by kernel_rfl
 c9:=by kernel_rfl
 c20:=by kernel_rfl
 c37:=by kernel_rfl
 c46:=by kernel_rfl
 c51:=by kernel_rfl
 c53:=by kernel_rfl
 c75:=by kernel_rfl
 c80:=by kernel_rfl
 c127:=by kernel_rfl
 c143:=by kernel_rfl
 c145:=by kernel_rfl
 c167:=by kernel_rfl
 c168:=by kernel_rfl
 c171:=by kernel_rfl
 c173:=by kernel_rfl
 c210:=by kernel_rfl
 c212:=by kernel_rfl
 c213:=by kernel_rfl
 c232:=by kernel_rfl
 c233:=by kernel_rfl }
open Go.RowKit in
theorem Tryz.strconv_toError_syntax (fn s:ByteArray) (base bits:Int) (ev:Value) (w:World) (hlim:s.size≤281474976710656) (hv:w.cell? ⟨4,0,none⟩=some ev) (hev:ev=.nilIface∨∃ te pe,ev=.iface te pe):
 Calls Tryz.prog 236 #[.string fn,.string s,.int .i64 base,.int .i64 bits,.iface 291 (.int .i64 2)] w fun e w'=>∃ N,e=.returned (.iface 293 (.pointer (some ⟨N,0,none⟩)))∧w.heap.size≤N∧w'.heap[N]?=some (.cells #[.string fn,.string s,ev] 304 (0,0))∧Below w.heap.size w w':=Any.strconv_toError_syntax Tryz.laysC245 fn s base bits ev w hlim hv hev
def Tryz.lays144_ren:Go.Shelf.Ren:=⟨fun|144=>146|143=>178|219=>209|217=>223|225=>224|224=>225|267=>226|266=>239|314=>240|n=>n,fun|9=>9|4=>4|3=>3|5=>5|46=>263|146=>282|51=>173|n=>n,fun|1=>1|n=>n⟩
theorem Tryz.lays144:Go.Proofs.Lays.n144 Tryz.prog Tryz.lays144_ren:={
 mixed:=by kernel_rfl
 f143:=Tryz.func178.trans (congrArg some (by kernel_rfl))
 f144:=Tryz.func146.trans (congrArg some (by kernel_rfl))
 f217:=Tryz.func223.trans (congrArg some (by kernel_rfl))
 f219:=Tryz.func209.trans (congrArg some (by kernel_rfl))
 f224:=Tryz.func225.trans (congrArg some (by kernel_rfl))
 f225:=Tryz.func224.trans (congrArg some (by kernel_rfl))
 f266:=Tryz.func239.trans (congrArg some (by kernel_rfl))
 f267:=Tryz.func226.trans (congrArg some (by kernel_rfl))
 f314:=Tryz.func240.trans (congrArg some (by kernel_rfl))
 t3:=Tryz.underlying3
 a3:=Tryz.isAgg3
 z3:=Tryz.sizeOf3
 v3:=Tryz.zeroValue3
 t4:=Tryz.underlying4
 a4:=Tryz.isAgg4
 z4:=Tryz.sizeOf4
 v4:=Tryz.zeroValue4
 t5:=Tryz.underlying5
 a5:=Tryz.isAgg5
 z5:=Tryz.sizeOf5
 v5:=Tryz.zeroValue5
 t9:=Tryz.underlying9
 a9:=Tryz.isAgg9
 z9:=Tryz.sizeOf9
 v9:=Tryz.zeroValue9
 t46:=Tryz.underlying263
 a46:=Tryz.isAgg263
 z46:=Tryz.sizeOf263
 v46:=Tryz.zeroValue263
 t51:=Tryz.underlying173
 a51:=Tryz.isAgg173
 z51:=Tryz.sizeOf173
 v51:=Tryz.zeroValue173
 t146:=Tryz.underlying282
 a146:=Tryz.isAgg282
 z146:=Tryz.sizeOf282
 v146:=Tryz.zeroValue282
 g1:=by kernel_rfl }
open Go.RowKit Go.Lib in
theorem Tryz.strings_Contains_one (s:ByteArray) (c:UInt8) (w:World):
 Calls Tryz.prog 146 #[.string s,.string ⟨#[c]⟩] w fun e w'=>e=.returned (.bool (decide (0≤Lib.indexByte s.data.toList c)))∧w'=w:=Any.strings_Contains_one Tryz.lays144 s c w
def Tryz.lays145_ren:Go.Shelf.Ren:=⟨fun|145=>234|220=>245|219=>209|217=>223|225=>224|224=>225|267=>226|266=>239|314=>240|n=>n,fun|9=>9|4=>4|59=>277|3=>3|5=>5|46=>263|146=>282|51=>173|n=>n,fun|1=>1|n=>n⟩
theorem Tryz.lays145:Go.Proofs.Lays.n145 Tryz.prog Tryz.lays145_ren:={
 mixed:=by kernel_rfl
 f145:=Tryz.func234.trans (congrArg some (by kernel_rfl))
 f217:=Tryz.func223.trans (congrArg some (by kernel_rfl))
 f219:=Tryz.func209.trans (congrArg some (by kernel_rfl))
 f220:=Tryz.func245.trans (congrArg some (by kernel_rfl))
 f224:=Tryz.func225.trans (congrArg some (by kernel_rfl))
 f225:=Tryz.func224.trans (congrArg some (by kernel_rfl))
 f266:=Tryz.func239.trans (congrArg some (by kernel_rfl))
 f267:=Tryz.func226.trans (congrArg some (by kernel_rfl))
 f314:=Tryz.func240.trans (congrArg some (by kernel_rfl))
 t3:=Tryz.underlying3
 a3:=Tryz.isAgg3
 z3:=Tryz.sizeOf3
 v3:=Tryz.zeroValue3
 t4:=Tryz.underlying4
 a4:=Tryz.isAgg4
 z4:=Tryz.sizeOf4
 v4:=Tryz.zeroValue4
 t5:=Tryz.underlying5
 a5:=Tryz.isAgg5
 z5:=Tryz.sizeOf5
 v5:=Tryz.zeroValue5
 t9:=Tryz.underlying9
 a9:=Tryz.isAgg9
 z9:=Tryz.sizeOf9
 v9:=Tryz.zeroValue9
 t46:=Tryz.underlying263
 a46:=Tryz.isAgg263
 z46:=Tryz.sizeOf263
 v46:=Tryz.zeroValue263
 t51:=Tryz.underlying173
 a51:=Tryz.isAgg173
 z51:=Tryz.sizeOf173
 v51:=Tryz.zeroValue173
 t59:=Tryz.underlying277
 a59:=Tryz.isAgg277
 z59:=Tryz.sizeOf277
 v59:=Tryz.zeroValue277
 t146:=Tryz.underlying282
 a146:=Tryz.isAgg282
 z146:=Tryz.sizeOf282
 v146:=Tryz.zeroValue282
 g1:=by kernel_rfl }
open Go.RowKit Go.Lib in
theorem Tryz.strings_Cut (s sep:ByteArray) (m:Int) (w:World) (hs:s.size<4294967281) (hm:w.cell? ⟨1,0,none⟩=some (.int .i64 m)):
 Calls Tryz.prog 234 #[.string s,.string sep] w fun e w'=>e=.returned (.tuple #[.string ⟨(Lib.cut s.data.toList sep.data.toList).1.toArray⟩,.string ⟨(Lib.cut s.data.toList sep.data.toList).2.1.toArray⟩,.bool (Lib.cut s.data.toList sep.data.toList).2.2])∧∃ n,w'=w.drewN n:=Any.strings_Cut Tryz.lays145 s sep m w hs hm
def Tryz.laysM176_ren:Go.Shelf.Ren:=⟨fun|176=>207|249=>222|288=>238|283=>252|284=>253|285=>254|286=>255|129=>261|317=>260|318=>262|319=>263|320=>264|337=>266|338=>267|n=>n,fun|37=>109|2=>2|3=>3|53=>250|4=>4|9=>9|171=>297|0=>0|173=>300|212=>306|51=>173|5=>5|20=>20|213=>307|46=>263|232=>314|233=>315|n=>n,fun|17=>6|18=>7|19=>8|n=>n⟩
theorem Tryz.laysM176:Go.Proofs.LaysM.n176 Tryz.prog Tryz.laysM176_ren:={
 mixed:=by kernel_rfl
 f129:=Tryz.func261.trans (congrArg some (by kernel_rfl))
 f176:=Tryz.func207.trans (congrArg some (by kernel_rfl))
 f249:=Tryz.func222.trans (congrArg some (by kernel_rfl))
 f283:=Tryz.func252.trans (congrArg some (by kernel_rfl))
 f284:=Tryz.func253.trans (congrArg some (by kernel_rfl))
 f285:=Tryz.func254.trans (congrArg some (by kernel_rfl))
 f286:=Tryz.func255.trans (congrArg some (by kernel_rfl))
 f288:=Tryz.func238.trans (congrArg some (by kernel_rfl))
 f317:=Tryz.func260.trans (congrArg some (by kernel_rfl))
 f318:=Tryz.func262.trans (congrArg some (by kernel_rfl))
 f319:=Tryz.func263.trans (congrArg some (by kernel_rfl))
 f320:=Tryz.func264.trans (congrArg some (by kernel_rfl))
 f337:=Tryz.func266.trans (congrArg some (by kernel_rfl))
 f338:=Tryz.func267.trans (congrArg some (by kernel_rfl))
 t0:=Tryz.underlying0
 a0:=Tryz.isAgg0
 z0:=Tryz.sizeOf0
 v0:=Tryz.zeroValue0
 t2:=Tryz.underlying2
 a2:=Tryz.isAgg2
 z2:=Tryz.sizeOf2
 v2:=Tryz.zeroValue2
 t3:=Tryz.underlying3
 a3:=Tryz.isAgg3
 z3:=Tryz.sizeOf3
 v3:=Tryz.zeroValue3
 t4:=Tryz.underlying4
 a4:=Tryz.isAgg4
 z4:=Tryz.sizeOf4
 v4:=Tryz.zeroValue4
 t5:=Tryz.underlying5
 a5:=Tryz.isAgg5
 z5:=Tryz.sizeOf5
 v5:=Tryz.zeroValue5
 t9:=Tryz.underlying9
 a9:=Tryz.isAgg9
 z9:=Tryz.sizeOf9
 v9:=Tryz.zeroValue9
 t20:=Tryz.underlying20
 a20:=Tryz.isAgg20
 z20:=Tryz.sizeOf20
 v20:=Tryz.zeroValue20
 t37:=Tryz.underlying109
 a37:=Tryz.isAgg109
 z37:=Tryz.sizeOf109
 v37:=Tryz.zeroValue109
 t46:=Tryz.underlying263
 a46:=Tryz.isAgg263
 z46:=Tryz.sizeOf263
 v46:=Tryz.zeroValue263
 t51:=Tryz.underlying173
 a51:=Tryz.isAgg173
 z51:=Tryz.sizeOf173
 v51:=Tryz.zeroValue173
 t53:=Tryz.underlying250
 a53:=Tryz.isAgg250
 z53:=Tryz.sizeOf250
 v53:=Tryz.zeroValue250
 t171:=Tryz.underlying297
 a171:=Tryz.isAgg297
 z171:=Tryz.sizeOf297
 v171:=Tryz.zeroValue297
 t173:=Tryz.underlying300
 a173:=Tryz.isAgg300
 z173:=Tryz.sizeOf300
 v173:=Tryz.zeroValue300
 t212:=Tryz.underlying306
 a212:=Tryz.isAgg306
 z212:=Tryz.sizeOf306
 v212:=Tryz.zeroValue306
 t213:=Tryz.underlying307
 a213:=Tryz.isAgg307
 z213:=Tryz.sizeOf307
 t232:=Tryz.underlying314
 a232:=Tryz.isAgg314
 z232:=Tryz.sizeOf314
 v232:=Tryz.zeroValue314
 t233:=Tryz.underlying315
 a233:=Tryz.isAgg315
 z233:=Tryz.sizeOf315
 v233:=Tryz.zeroValue315
 g17:=by kernel_rfl
 g18:=by kernel_rfl
 g19:=by kernel_rfl
 i0:=by kernel_rfl
 i2:=by kernel_rfl
 i3:=by kernel_rfl
 i4:=by kernel_rfl
 i5:=by kernel_rfl
 i9:=by kernel_rfl
 i20:=by kernel_rfl
 i37:=by kernel_rfl
 i46:=by kernel_rfl
 i51:=by kernel_rfl
 i53:=by kernel_rfl
 i171:=by kernel_rfl
 i173:=by kernel_rfl
 i212:=by kernel_rfl
 i232:=by kernel_rfl
 i233:=by kernel_rfl
 m17:=by kernel_rfl
 m18:=by kernel_rfl
 m19:=by kernel_rfl }
open Go.RowKit Go.Sort Go.Lib in
theorem Tryz.strconv_AppendInt_10 (B n:Nat) (i:Int) (h0: -9223372036854775808≤i) (h1:i≤9223372036854775807) (sv:Value) (xs:List Value) (w:World) (hown:w.ownsRow B 5 1 sv n xs) (hBw:B≤w.heap.size) (hlim:n+21≤140737488355328) (htab:Lib.TabBelow Tryz.prog B w "internal/strconv.uint64pow10" .u64 Lib.pow10Tab):
 Calls Tryz.prog 207 #[sv,.int .i64 i,.int .i64 10] w fun e w'=>∃ v',e=.returned v'∧w'.ownsRow B 5 1 v' (n+(Lib.itoa i).length) (xs++Lib.byteCells (Lib.itoa i))∧Below B w w'∧Lib.OthersKept 5 none w w':=Any.strconv_AppendInt_10 Tryz.laysM176 B n i h0 h1 sv xs w hown hBw hlim htab
def Tryz.lays99_ren:Go.Shelf.Ren:=⟨fun|99=>54|206=>81|n=>n,fun|9=>9|4=>4|3=>3|n=>n,fun|n=>n⟩
theorem Tryz.lays99:Go.Proofs.Lays.n99 Tryz.prog Tryz.lays99_ren:={
 mixed:=by kernel_rfl
 f99:=Tryz.func54.trans (congrArg some (by kernel_rfl))
 f206:=Tryz.func81.trans (congrArg some (by kernel_rfl))
 t3:=Tryz.underlying3
 a3:=Tryz.isAgg3
 z3:=Tryz.sizeOf3
 v3:=Tryz.zeroValue3
 t4:=Tryz.underlying4
 a4:=Tryz.isAgg4
 z4:=Tryz.sizeOf4
 v4:=Tryz.zeroValue4
 t9:=Tryz.underlying9
 a9:=Tryz.isAgg9
 z9:=Tryz.sizeOf9
 v9:=Tryz.zeroValue9 }
open Go.RowKit Go.Lib in
theorem Tryz.strings_HasPrefix (s p:ByteArray) (w:World):
 Calls Tryz.prog 54 #[.string s,.string p] w fun e w'=>e=.returned (.bool (Lib.hasPrefix s.data.toList p.data.toList))∧w'=w:=Any.strings_HasPrefix Tryz.lays99 s p w
def Tryz.lays155_ren:Go.Shelf.Ren:=⟨fun|155=>148|154=>179|138=>210|165=>211|143=>178|166=>84|197=>212|169=>58|195=>227|218=>228|240=>111|241=>229|219=>209|260=>230|276=>144|277=>241|217=>223|225=>224|224=>225|267=>226|266=>239|314=>240|n=>n,fun|9=>9|3=>3|4=>4|72=>111|0=>0|76=>152|105=>257|21=>21|5=>5|70=>108|20=>20|37=>109|75=>151|127=>155|164=>207|46=>263|119=>285|139=>288|138=>287|146=>282|51=>173|80=>113|n=>n,fun|1=>1|3=>2|4=>3|n=>n⟩
theorem Tryz.lays155:Go.Proofs.Lays.n155 Tryz.prog Tryz.lays155_ren:={
 mixed:=by kernel_rfl
 f138:=Tryz.func210.trans (congrArg some (by kernel_rfl))
 f143:=Tryz.func178.trans (congrArg some (by kernel_rfl))
 f154:=Tryz.func179.trans (congrArg some (by kernel_rfl))
 f155:=Tryz.func148.trans (congrArg some (by kernel_rfl))
 f165:=Tryz.func211.trans (congrArg some (by kernel_rfl))
 f166:=Tryz.func84.trans (congrArg some (by kernel_rfl))
 f169:=Tryz.func58.trans (congrArg some (by kernel_rfl))
 f195:=Tryz.func227.trans (congrArg some (by kernel_rfl))
 f197:=Tryz.func212.trans (congrArg some (by kernel_rfl))
 f217:=Tryz.func223.trans (congrArg some (by kernel_rfl))
 f218:=Tryz.func228.trans (congrArg some (by kernel_rfl))
 f219:=Tryz.func209.trans (congrArg some (by kernel_rfl))
 f224:=Tryz.func225.trans (congrArg some (by kernel_rfl))
 f225:=Tryz.func224.trans (congrArg some (by kernel_rfl))
 f240:=Tryz.func111.trans (congrArg some (by kernel_rfl))
 f241:=Tryz.func229.trans (congrArg some (by kernel_rfl))
 f260:=Tryz.func230.trans (congrArg some (by kernel_rfl))
 f266:=Tryz.func239.trans (congrArg some (by kernel_rfl))
 f267:=Tryz.func226.trans (congrArg some (by kernel_rfl))
 f276:=Tryz.func144.trans (congrArg some (by kernel_rfl))
 f277:=Tryz.func241.trans (congrArg some (by kernel_rfl))
 f314:=Tryz.func240.trans (congrArg some (by kernel_rfl))
 t0:=Tryz.underlying0
 a0:=Tryz.isAgg0
 z0:=Tryz.sizeOf0
 v0:=Tryz.zeroValue0
 t3:=Tryz.underlying3
 a3:=Tryz.isAgg3
 z3:=Tryz.sizeOf3
 v3:=Tryz.zeroValue3
 t4:=Tryz.underlying4
 a4:=Tryz.isAgg4
 z4:=Tryz.sizeOf4
 v4:=Tryz.zeroValue4
 t5:=Tryz.underlying5
 a5:=Tryz.isAgg5
 z5:=Tryz.sizeOf5
 v5:=Tryz.zeroValue5
 t9:=Tryz.underlying9
 a9:=Tryz.isAgg9
 z9:=Tryz.sizeOf9
 v9:=Tryz.zeroValue9
 t20:=Tryz.underlying20
 a20:=Tryz.isAgg20
 z20:=Tryz.sizeOf20
 v20:=Tryz.zeroValue20
 t21:=Tryz.underlying21
 a21:=Tryz.isAgg21
 z21:=Tryz.sizeOf21
 v21:=Tryz.zeroValue21
 t37:=Tryz.underlying109
 a37:=Tryz.isAgg109
 z37:=Tryz.sizeOf109
 v37:=Tryz.zeroValue109
 t46:=Tryz.underlying263
 a46:=Tryz.isAgg263
 z46:=Tryz.sizeOf263
 v46:=Tryz.zeroValue263
 t51:=Tryz.underlying173
 a51:=Tryz.isAgg173
 z51:=Tryz.sizeOf173
 v51:=Tryz.zeroValue173
 t70:=Tryz.underlying108
 a70:=Tryz.isAgg108
 z70:=Tryz.sizeOf108
 v70:=Tryz.zeroValue108
 t72:=Tryz.underlying111
 a72:=Tryz.isAgg111
 z72:=Tryz.sizeOf111
 v72:=Tryz.zeroValue111
 t75:=Tryz.underlying151
 a75:=Tryz.isAgg151
 z75:=Tryz.sizeOf151
 v75:=Tryz.zeroValue151
 t76:=Tryz.underlying152
 a76:=Tryz.isAgg152
 z76:=Tryz.sizeOf152
 v76:=Tryz.zeroValue152
 t105:=Tryz.underlying257
 a105:=Tryz.isAgg257
 z105:=Tryz.sizeOf257
 v105:=Tryz.zeroValue257
 t119:=Tryz.underlying285
 a119:=Tryz.isAgg285
 z119:=Tryz.sizeOf285
 t127:=Tryz.underlying155
 a127:=Tryz.isAgg155
 z127:=Tryz.sizeOf155
 v127:=Tryz.zeroValue155
 t138:=Tryz.underlying287
 a138:=Tryz.isAgg287
 z138:=Tryz.sizeOf287
 v138:=Tryz.zeroValue287
 t139:=Tryz.underlying288
 a139:=Tryz.isAgg288
 z139:=Tryz.sizeOf288
 v139:=Tryz.zeroValue288
 t146:=Tryz.underlying282
 a146:=Tryz.isAgg282
 z146:=Tryz.sizeOf282
 v146:=Tryz.zeroValue282
 t164:=Tryz.underlying207
 a164:=Tryz.isAgg207
 z164:=Tryz.sizeOf207
 v164:=Tryz.zeroValue207
 g1:=by kernel_rfl
 g3:=by kernel_rfl
 g4:=by kernel_rfl }
theorem Tryz.Builder_Extra_155:Builder.Extra Tryz.prog Tryz.lays155_ren:={
 sizeBuilder:=by kernel_rfl
 liesBuilder:=by kernel_rfl
 t5:=Tryz.underlying5
 a5:=Tryz.isAgg5
 z5:=Tryz.sizeOf5
 v5:=Tryz.zeroValue5
 infoByte:=by kernel_rfl
 cellsByte:=by kernel_rfl
 sizeByte:=by kernel_rfl
 neB5:=by decide }
open Go.RowKit Go.Lib in
theorem Tryz.strings_ReplaceAll (s old new:ByteArray) (m:Int) (w:World) (hs:s.size<4294967281) (hm:w.cell? ⟨1,0,none⟩=some (.int .i64 m)) (h1:1≤old.size) (hlen:s.size+Lib.countB s old*new.size≤140737488355328):
 Calls Tryz.prog 148 #[.string s,.string old,.string new] w fun e w'=>
  e=.returned (.string ⟨(Lib.replaceAll s.data.toList old.data.toList new.data.toList).toArray⟩)∧Below w.heap.size w w':=Any.strings_ReplaceAll Tryz.lays155 Tryz.Builder_Extra_155 s old new m w hs hm h1 hlen
end Go.Proofs
namespace Go.Proofs.YtcgaeknikfaghaaGreatDoor
def Lx.blank (c:UInt8):Bool:=decide (c.toNat=9)||decide (c.toNat=10)||decide (c.toNat=13)||decide (c.toNat=32)
def Lx.digit (c:UInt8):Bool:=decide (48≤c.toNat)&&decide (c.toNat≤57)
def Lx.marks:List Nat:=[126,33,64,36,37,94,38,42,95,45,43,61,60,62,46,63,47]
def Lx.name (c:UInt8):Bool:=(decide (97≤c.toNat)&&decide (c.toNat≤122))||(decide (65≤c.toNat)&&decide (c.toNat≤90))||Lx.digit c||Lx.marks.contains c.toNat
def Lx.good (c:UInt8):Bool:=Lx.blank c||(decide (33≤c.toNat)&&decide (c.toNat≤126))
def Lx.hex (c:UInt8):Bool:=Lx.digit c||(decide (97≤c.toNat)&&decide (c.toNat≤102))||(decide (65≤c.toNat)&&decide (c.toNat≤70))
def Lx.bit (c:UInt8):Bool:=decide (c.toNat=48)||decide (c.toNat=49)
def Lx.skip:Bool→List UInt8→List UInt8
 |_,[]=>[]
 |r,c::t=>if Lx.good c then
   let r':=(r&&!decide (c.toNat=10))||decide (c.toNat=59)
   if !r'&&!Lx.blank c then c::t else Lx.skip r' t
  else c::t
def Lx.quo (q:UInt8):List UInt8→List UInt8×Int×List UInt8
 |[]=>([],51,[])
 |[c]=>if Lx.good c then(if c=q then([],0,[]) else([c],51,[])) else([],50,[c])
 |c::d::t=>if Lx.good c then
   (if c=q then
    (if q.toNat=34∧d=q then let x:=Lx.quo q t;(q::x.1,x.2) else([],0,d::t))
   else let x:=Lx.quo q (d::t);(c::x.1,x.2))
  else([],50,c::d::t)
def Lx.digits (x:List UInt8):Bool:=!x.isEmpty&&x.all Lx.digit
def Lx.number (x:List UInt8):Int:=
 let w:=x.takeWhile fun c=> !decide (c.toNat=46)
 if !Lx.digits w||(decide (1<w.length)&&decide ((x.headD 0).toNat=48)) then 0
 else match x.dropWhile fun c=> !decide (c.toNat=46) with
  |[]=>4
  |_::p=>if Lx.digits p then 5 else 0
def Lx.other:List UInt8→Bool
 |_::d::y=>(decide (d.toNat=120)||decide (d.toNat=98))&&!y.isEmpty&&y.all fun c=>Lx.hex c&&(!decide (d.toNat=98)||Lx.bit c)
 |_=>false
def Lx.one (l:List UInt8):Int×List UInt8×Int×List UInt8:=
 match l with
 |[]=>(0,[],50,[])
 |c::t=>
  if c.toNat=40 then(1,[c],0,t)
  else if c.toNat=41 then(2,[c],0,t)
  else if c.toNat=124∨c.toNat=34 then
   let x:=Lx.quo c t
   if x.2.1=0 then
    (if c.toNat=34 then(6,x.1,0,x.2.2)
    else if x.1.any (fun d=>decide (d.toNat=92)) then(0,[],8,l) else(3,x.1,0,x.2.2))
   else if x.2.1=50 then(0,[],50,x.2.2) else(0,[],51,l)
  else if Lx.digit c then
   (if Lx.number (c::t.takeWhile Lx.name)=0 then(0,[],8,l) else(Lx.number (c::t.takeWhile Lx.name),c::t.takeWhile Lx.name,0,t.dropWhile Lx.name))
  else if Lx.name c then(3,c::t.takeWhile Lx.name,0,t.dropWhile Lx.name)
  else if c.toNat=58 then(if(t.takeWhile Lx.name).isEmpty then(0,[],8,l) else(7,c::t.takeWhile Lx.name,0,t.dropWhile Lx.name))
  else if c.toNat=35 then(if Lx.other (c::t.takeWhile Lx.name) then(8,c::t.takeWhile Lx.name,0,t.dropWhile Lx.name) else(0,[],8,l))
  else(0,[],50,l)
abbrev Lx.Tok:=Int×List UInt8×Nat
def Lx.lex:Nat→List UInt8→List Lx.Tok×Int×List UInt8
 |k,l=>match Lx.skip false l with
  |[]=>([],0,[])
  |c::t=>if Lx.good c then
    match k with
    |0=>([],2,c::t)
    |k+1=>
     let x:=Lx.one (c::t)
     if x.2.2.1=0 then
      let y:=Lx.lex k x.2.2.2
      ((x.1,x.2.1,(c::t).length)::y.1,y.2)
     else([],x.2.2.1,x.2.2.2)
   else([],50,c::t)
structure Lx.Ends (b:UInt8):Prop where
 nam:Lx.name b=false
 quo:b.toNat≠34
 bar:b.toNat≠124
 goo:Lx.good b=true
theorem Lx.ends_32:Lx.Ends 32:=⟨by decide,by decide,by decide,by decide⟩
theorem Lx.take_app (p:UInt8→Bool) {b:UInt8} (hb:p b=false) (m:List UInt8):∀ l:List UInt8,(l++b::m).takeWhile p=l.takeWhile p∧(l++b::m).dropWhile p=l.dropWhile p++b::m
 |[]=>by simp[hb]
 |c::l=>by
  obtain⟨h1,h2⟩:=Lx.take_app p hb m l
  by_cases hc:p c=true
  ·simp only[List.cons_append,List.takeWhile_cons,List.dropWhile_cons,hc,if_pos,h1,h2,and_self]
  ·simp only[List.cons_append,List.takeWhile_cons,List.dropWhile_cons,hc,Bool.false_eq_true,if_neg,not_false_eq_true,and_self]
theorem Lx.skip_cons (r:Bool) (c:UInt8) (t:List UInt8):Lx.skip r (c::t)=if Lx.good c then(if !((r&&!decide (c.toNat=10))||decide (c.toNat=59))&&!Lx.blank c then c::t else Lx.skip ((r&&!decide (c.toNat=10))||decide (c.toNat=59)) t) else c::t:=rfl
theorem Lx.skip_len:∀ (l:List UInt8) (r:Bool),(Lx.skip r l).length≤l.length
 |[],r=>Nat.le_refl _
 |d::l,r=>by
  rw[Lx.skip_cons]
  split
  ·split
   ·exact Nat.le_refl _
   ·exact Nat.le_succ_of_le (Lx.skip_len l _)
  ·exact Nat.le_refl _
theorem Lx.skip_head {c:UInt8} {t:List UInt8}:∀ (l:List UInt8) (r:Bool),Lx.skip r l=c::t→Lx.good c=true→Lx.blank c=false∧c.toNat≠59
 |[],r,h,_=>by cases h
 |d::l,r,h,hc=>by
  rw[Lx.skip_cons] at h
  split at h
  ·split at h
   ·rename_i hr
    injection h with h1 h2
    subst h1
    simp at hr
    exact⟨by simpa using hr.2,hr.1.2⟩
   ·exact Lx.skip_head l _ h hc
  ·rename_i hg
   injection h with h1 h2
   subst h1
   exact absurd hc hg
theorem Lx.quo_err (q:UInt8):∀ l:List UInt8,(Lx.quo q l).2.1=0∨(Lx.quo q l).2.1=50∨(Lx.quo q l).2.1=51
 |[]=> .inr (.inr rfl)
 |[c]=>by
  unfold Lx.quo
  split
  ·split
   ·exact .inl rfl
   ·exact .inr (.inr rfl)
  ·exact .inr (.inl rfl)
 |c::d::t=>by
  unfold Lx.quo
  split
  ·split
   ·split
    ·exact Lx.quo_err q t
    ·exact .inl rfl
   ·exact Lx.quo_err q (d::t)
  ·exact .inr (.inl rfl)
theorem Lx.quo_app {b:UInt8} (hb:Lx.Ends b) (m:List UInt8) (q:UInt8) (hq:q.toNat=34∨q.toNat=124):∀ l:List UInt8,
  ((Lx.quo q l).2.1=0→Lx.quo q (l++b::m)=((Lx.quo q l).1,0,(Lx.quo q l).2.2++b::m))∧
  ((Lx.quo q l).2.1=50→Lx.quo q (l++b::m)=((Lx.quo q l).1,50,(Lx.quo q l).2.2++b::m))∧
  ((Lx.quo q l).2.1=51→(Lx.quo q (l++[b])).2.1=51)
 |[]=>by
  have hne:b≠q:=fun e=>by rw[e] at hb;rcases hq with h|h;exact hb.quo h;exact hb.bar h
  refine⟨fun h=>by simp[Lx.quo] at h,fun h=>by simp[Lx.quo] at h,fun _=>?_⟩
  simp[Lx.quo,hb.goo,hne]
 |[c]=>by
  have hne:b≠q:=fun e=>by rw[e] at hb;rcases hq with h|h;exact hb.quo h;exact hb.bar h
  by_cases hg:Lx.good c=true
  ·by_cases hc:c=q
   ·subst hc
    refine⟨fun _=>?_,fun h=>by simp[Lx.quo,hg] at h,fun h=>by simp[Lx.quo,hg] at h⟩
    simp[Lx.quo,hg,hne]
   ·refine⟨fun h=>by simp[Lx.quo,hg,hc] at h,fun h=>by simp[Lx.quo,hg,hc] at h,fun _=>?_⟩
    simp[Lx.quo,hg,hc,hb.goo,hne]
  ·refine⟨fun h=>by simp[Lx.quo,hg] at h,fun _=>by simp[Lx.quo,hg],fun h=>by simp[Lx.quo,hg] at h⟩
 |c::d::t=>by
  by_cases hg:Lx.good c=true
  ·by_cases hc:c=q
   ·subst hc
    by_cases hd:c.toNat=34∧d=c
    ·obtain⟨h1,h2,h3⟩:=Lx.quo_app hb m c hq t
     have e:Lx.quo c (c::d::t)=(c::(Lx.quo c t).1,(Lx.quo c t).2):=by rw[Lx.quo];simp[hg,hd]
     have e2:∀ m':List UInt8,Lx.quo c (c::d::t++m')=(c::(Lx.quo c (t++m')).1,(Lx.quo c (t++m')).2):=fun m'=>by
      show Lx.quo c (c::d::(t++m'))=_
      rw[Lx.quo];simp[hg,hd]
     refine⟨fun h=>?_,fun h=>?_,fun h=>?_⟩
     ·rw[e] at h;rw[e2,h1 h,e]
     ·rw[e] at h;rw[e2,h2 h,e]
     ·rw[e] at h;rw[e2];exact h3 h
    ·have e:∀ m':List UInt8,Lx.quo c (c::d::t++m')=([],0,d::t++m'):=fun m'=>by
      show Lx.quo c (c::d::(t++m'))=_
      rw[Lx.quo];simp[hg,hd]
     have e0:=e []
     rw[List.append_nil,List.append_nil] at e0
     refine⟨fun _=>by rw[e,e0],fun h=>by rw[e0] at h;simp at h,fun h=>by rw[e0] at h;simp at h⟩
   ·obtain⟨h1,h2,h3⟩:=Lx.quo_app hb m q hq (d::t)
    have e:∀ m':List UInt8,Lx.quo q (c::d::t++m')=(c::(Lx.quo q (d::t++m')).1,(Lx.quo q (d::t++m')).2):=fun m'=>by
     show Lx.quo q (c::d::(t++m'))=_
     rw[Lx.quo];simp[hg,hc]
    have e0:=e []
    rw[List.append_nil,List.append_nil] at e0
    refine⟨fun h=>?_,fun h=>?_,fun h=>?_⟩
    ·rw[e0] at h;rw[e,h1 h,e0]
    ·rw[e0] at h;rw[e,h2 h,e0]
    ·rw[e0] at h;rw[e];exact h3 h
  ·have e:∀ m':List UInt8,Lx.quo q (c::d::t++m')=([],50,c::d::t++m'):=fun m'=>by
    show Lx.quo q (c::d::(t++m'))=_
    rw[Lx.quo];simp[hg]
   have e0:=e []
   rw[List.append_nil] at e0
   refine⟨fun h=>by rw[e0] at h;simp at h,fun _=>by rw[e,e0],fun h=>by rw[e0] at h;simp at h⟩
theorem Lx.quo_len (q:UInt8):∀ l:List UInt8,(Lx.quo q l).2.2.length≤l.length
 |[]=>Nat.le_refl _
 |[c]=>by
  unfold Lx.quo
  split
  ·split <;> simp
  ·simp
 |c::d::t=>by
  unfold Lx.quo
  split
  ·split
   ·split
    ·exact Nat.le_succ_of_le (Nat.le_succ_of_le (Lx.quo_len q t))
    ·simp
   ·exact Nat.le_succ_of_le (Lx.quo_len q (d::t))
  ·simp
end Go.Proofs.YtcgaeknikfaghaaGreatDoor
namespace Go.Proofs.YtcgaeknikfaghaaGreatDoor
theorem Lx.one_app {b:UInt8} (hb:Lx.Ends b) (m:List UInt8) (c:UInt8) (t:List UInt8):
  ((Lx.one (c::t)).2.2.1=0→Lx.one (c::t++b::m)=((Lx.one (c::t)).1,(Lx.one (c::t)).2.1,0,(Lx.one (c::t)).2.2.2++b::m))∧
  ((Lx.one (c::t)).2.2.1≠0→(Lx.one (c::t)).2.2.1≠51→Lx.one (c::t++b::m)=(0,[],(Lx.one (c::t)).2.2.1,(Lx.one (c::t)).2.2.2++b::m))∧
  ((Lx.one (c::t)).2.2.1=51→(Lx.one (c::t++[b])).2.2.1=51):=by
 obtain⟨e1,e2⟩:=Lx.take_app Lx.name hb.nam m t
 rw[List.cons_append,List.cons_append]
 by_cases h1:c.toNat=40
 ·simp[Lx.one,h1]
 by_cases h2:c.toNat=41
 ·simp[Lx.one,h2]
 by_cases h3:c.toNat=124∨c.toNat=34
 ·obtain⟨q1,q2,q3⟩:=Lx.quo_app hb m c h3.symm t
  have q:=Lx.quo_err c t
  rcases q with q|q|q
  ·have hq:=q1 q
   by_cases h34:c.toNat=34
   ·simp[Lx.one,h34,q,hq]
   ·by_cases h92:((Lx.quo c t).1.any fun d=>decide (d.toNat=92))=true
    ·have h124:c.toNat=124:=by omega
     simp only[Lx.one,h124,q,hq,h92]
     simp
    ·have h124:c.toNat=124:=by omega
     simp only[Lx.one,h124,q,hq,h92]
     simp
  ·have hq:=q2 q
   simp only[Lx.one,h1,h2,h3,q,hq]
   simp
  ·have hq:=q3 q
   simp only[Lx.one,h1,h2,h3,q,hq]
   simp
 by_cases h4:Lx.digit c=true
 ·by_cases hn:Lx.number (c::t.takeWhile Lx.name)=0
  ·simp[Lx.one,h1,h2,h3,h4,hn,e1]
  ·simp[Lx.one,h1,h2,h3,h4,hn,e1,e2]
 by_cases h5:Lx.name c=true
 ·simp[Lx.one,h1,h2,h3,h4,h5,e1,e2]
 by_cases h6:c.toNat=58
 ·by_cases hn:(t.takeWhile Lx.name).isEmpty=true
  ·simp only[Lx.one,h4,h5,h6,e1,e2,hn]
   simp
  ·simp only[Lx.one,h4,h5,h6,e1,e2,hn]
   simp
 by_cases h7:c.toNat=35
 ·by_cases hn:Lx.other (c::t.takeWhile Lx.name)=true
  ·simp only[Lx.one,h4,h5,h7,e1,e2,hn]
   simp
  ·simp only[Lx.one,h4,h5,h7,e1,e2,hn]
   simp
 simp[Lx.one,h1,h2,h3,h4,h5,h6,h7]
theorem Lx.drop_len (p:UInt8→Bool):∀ l:List UInt8,(l.dropWhile p).length≤l.length
 |[]=>Nat.le_refl _
 |c::l=>by
  rw[List.dropWhile_cons]
  split
  ·exact Nat.le_succ_of_le (Lx.drop_len p l)
  ·exact Nat.le_refl _
theorem Lx.one_len (c:UInt8) (t:List UInt8) (h:(Lx.one (c::t)).2.2.1=0):(Lx.one (c::t)).2.2.2.length≤t.length:=by
 have hd:=Lx.drop_len Lx.name t
 have hq:=Lx.quo_len c t
 unfold Lx.one at h ⊢
 dsimp only at h ⊢
 split <;> rename_i h1
 ·exact Nat.le_refl _
 rw[if_neg h1] at h
 split <;> rename_i h2
 ·exact Nat.le_refl _
 rw[if_neg h2] at h
 split <;> rename_i h3
 ·rw[if_pos h3] at h
  split <;> rename_i h4
  ·rw[if_pos h4] at h
   split <;> rename_i h5
   ·exact hq
   ·rw[if_neg h5] at h
    split <;> rename_i h6
    ·rw[if_pos h6] at h;cases h
    ·exact hq
  ·rw[if_neg h4] at h
   split at h <;> cases h
 rw[if_neg h3] at h
 split <;> rename_i h4
 ·rw[if_pos h4] at h
  split <;> rename_i h5
  ·rw[if_pos h5] at h;cases h
  ·exact hd
 rw[if_neg h4] at h
 split <;> rename_i h5
 ·exact hd
 rw[if_neg h5] at h
 split <;> rename_i h6
 ·rw[if_pos h6] at h
  split <;> rename_i h7
  ·rw[if_pos h7] at h;cases h
  ·exact hd
 rw[if_neg h6] at h
 split <;> rename_i h7
 ·rw[if_pos h7] at h
  split <;> rename_i h8
  ·exact hd
  ·rw[if_neg h8] at h;cases h
 rw[if_neg h7] at h
 cases h
section
variable {k : Nat} {l t : List UInt8} {c : UInt8}
theorem Lx.lex_nil (k:Nat) (h:Lx.skip false l=[]):Lx.lex k l=([],0,[]):=by
 unfold Lx.lex
 rw[h]
theorem Lx.lex_bad (k:Nat) (h:Lx.skip false l=c::t) (hg:Lx.good c=false):Lx.lex k l=([],50,c::t):=by
 unfold Lx.lex
 rw[h]
 simp[hg]
theorem Lx.lex_zero (h:Lx.skip false l=c::t) (hg:Lx.good c=true):Lx.lex 0 l=([],2,c::t):=by
 unfold Lx.lex
 rw[h]
 simp[hg]
theorem Lx.lex_err (k:Nat) (h:Lx.skip false l=c::t) (hg:Lx.good c=true) (he:(Lx.one (c::t)).2.2.1≠0):Lx.lex (k+1) l=([],(Lx.one (c::t)).2.2.1,(Lx.one (c::t)).2.2.2):=by
 rw[Lx.lex,h]
 simp[hg,he]
theorem Lx.lex_ok (k:Nat) (h:Lx.skip false l=c::t) (hg:Lx.good c=true) (he:(Lx.one (c::t)).2.2.1=0):
  Lx.lex (k+1) l=(((Lx.one (c::t)).1,(Lx.one (c::t)).2.1,(c::t).length)::(Lx.lex k (Lx.one (c::t)).2.2.2).1,(Lx.lex k (Lx.one (c::t)).2.2.2).2):=by
 rw[Lx.lex,h]
 simp[hg,he]
end
theorem Lx.lex_fuel:∀ (n k k':Nat) (l:List UInt8),l.length≤n→n≤k→n≤k'→Lx.lex k l=Lx.lex k' l
 |n,k,k',l,hn,hk,hk'=>by
  cases h:Lx.skip false l with
  |nil=>rw[Lx.lex_nil k h,Lx.lex_nil k' h]
  |cons c t=>
   have hlen:=Lx.skip_len l false
   rw[h,List.length_cons] at hlen
   cases hg:Lx.good c with
   |false=>rw[Lx.lex_bad k h hg,Lx.lex_bad k' h hg]
   |true=>
    match n,k,k' with
    |0,_,_=>omega
    |n+1,k+1,k'+1=>
     by_cases he:(Lx.one (c::t)).2.2.1=0
     ·have hr:=Lx.one_len c t he
      rw[Lx.lex_ok k h hg he,Lx.lex_ok k' h hg he,Lx.lex_fuel n k k' (Lx.one (c::t)).2.2.2 (by omega) (by omega) (by omega)]
     ·rw[Lx.lex_err k h hg he,Lx.lex_err k' h hg he]
end Go.Proofs.YtcgaeknikfaghaaGreatDoor
namespace Go.Proofs.YtcgaeknikfaghaaGreatDoor
def Lx.simple (s:List UInt8):Bool:=!s.isEmpty&&!Lx.digit (s.headD 0)&&s.all Lx.name
def Lx.dbl:List UInt8→List UInt8
 |[]=>[]
 |c::t=>if c.toNat=34 then c::c::Lx.dbl t else c::Lx.dbl t
def Lx.show (k:Int) (s:List UInt8):List UInt8:=if k=3 then(if Lx.simple s then s else 124::(s++[124])) else if k=6 then 34::(Lx.dbl s++[34]) else s
structure Lx.Whole (x:List UInt8) (k:Int) (s:List UInt8):Prop where
 one:Lx.one x=(k,s,0,[])
 at_:∃ c t,x=c::t∧Lx.good c=true∧Lx.blank c=false∧c.toNat≠59
theorem Lx.skip_token {c:UInt8} (t:List UInt8) (h1:Lx.good c=true) (h2:Lx.blank c=false) (h3:c.toNat≠59):Lx.skip false (c::t)=c::t:=by
 rw[Lx.skip_cons,if_pos h1,if_pos (by simp[h2,h3])]
theorem Lx.skip_blank {b:UInt8} (m:List UInt8) (hb:Lx.blank b=true):Lx.skip false (b::m)=Lx.skip false m:=by
 have h1:Lx.good b=true:=by simp[Lx.good,hb]
 have h2:b.toNat≠59:=by simp[Lx.blank] at hb;omega
 rw[Lx.skip_cons,if_pos h1,if_neg (by simp[hb])]
 simp[h2]
theorem Lx.skip_end:∀ (l:List UInt8) (r:Bool),∃ p,l=p++Lx.skip r l
 |[],r=>⟨[],rfl⟩
 |d::l,r=>by
  rw[Lx.skip_cons]
  split
  ·split
   ·exact⟨[],rfl⟩
   ·obtain⟨p,hp⟩:=Lx.skip_end l ((r&&!decide (d.toNat=10))||decide (d.toNat=59))
    exact⟨d::p,by rw[List.cons_append,←hp]⟩
  ·exact⟨[],rfl⟩
theorem Lx.lex_skip (k:Nat) {l l':List UInt8} (h:Lx.skip false l=Lx.skip false l'):Lx.lex k l=Lx.lex k l':=by
 cases k <;> ·unfold Lx.lex;rw[h]
theorem Lx.whole_alone {x s:List UInt8} {k:Int} (h:Lx.Whole x k s) (n:Nat):Lx.lex (n+1) x=([(k,s,x.length)],0,[]):=by
 obtain⟨h1,c,t,rfl,h2,h3,h4⟩:=h
 have hl:=Lx.lex_ok n (Lx.skip_token t h2 h3 h4) h2 (by rw[h1])
 rw[hl,h1]
 show(_::(Lx.lex n []).1,(Lx.lex n []).2)=_
 rw[Lx.lex_nil n rfl]
abbrev Lx.says (x:Lx.Tok):Int×List UInt8:=(x.1,x.2.1)
theorem Lx.digit_name {c:UInt8} (h:Lx.digit c=true):Lx.name c=true:=by simp[Lx.name,h]
theorem Lx.take_all (p:UInt8→Bool):∀ l:List UInt8,(l.takeWhile p).all p=true
 |[]=>rfl
 |c::l=>by
  rw[List.takeWhile_cons]
  split
  ·rename_i h
   rw[List.all_cons,h,Lx.take_all p l]
   rfl
  ·rfl
theorem Lx.all_take (p:UInt8→Bool):∀ l:List UInt8,l.all p=true→l.takeWhile p=l∧l.dropWhile p=[]
 |[],_=>⟨rfl,rfl⟩
 |c::l,h=>by
  rw[List.all_cons,Bool.and_eq_true] at h
  obtain⟨h1,h2⟩:=Lx.all_take p l h.2
  simp[h.1,h1,h2]
theorem Lx.take_drop (p:UInt8→Bool):∀ l:List UInt8,l.takeWhile p++l.dropWhile p=l
 |[]=>rfl
 |c::l=>by
  rw[List.takeWhile_cons,List.dropWhile_cons]
  split
  ·rw[List.cons_append,Lx.take_drop p l]
  ·rfl
theorem Lx.dbl_cons (c:UInt8) (t:List UInt8):Lx.dbl (c::t)=if c.toNat=34 then c::c::Lx.dbl t else c::Lx.dbl t:=rfl
theorem Lx.byte_eq {c:UInt8} {n:Nat} (h:c.toNat=n):c=UInt8.ofNat n:=by rw[←h];simp
end Go.Proofs.YtcgaeknikfaghaaGreatDoor
