import Derived.Shelf.Strconv.Atoi
import Derived.Shelf.Strconv.Itoa0
import Derived.Shelf.Strconv.Itoa1
import Derived.Shelf.LaysM
import Derived.Shelf.Strconv.Itoa2
import Derived.Shelf.Strconv.Itoa3
import Derived.Test.YthenokfmcjmfkaaGreatDoorYah
set_option maxHeartbeats 1000000
namespace Go.Proofs
open Go.Shelf
def Tryz.lays244_ren:Go.Shelf.Ren:=⟨fun|244=>177|247=>190|287=>204|321=>211|322=>212|n=>n,fun|9=>9|3=>3|75=>230|4=>4|5=>5|167=>258|37=>88|0=>0|85=>259|2=>2|53=>248|175=>270|46=>176|21=>21|80=>68|n=>n,fun|n=>n⟩
theorem Tryz.lays244 : Go.Proofs.Lays.n244 prog Tryz.lays244_ren := {
 mixed:=aK
 f244:=func177.trans (congrArg some aK)
 f247:=func190.trans (congrArg some aK)
 f287:=func204.trans (congrArg some aK)
 f321:=func211.trans (congrArg some aK)
 f322:=func212.trans (congrArg some aK)
 t0:=underlying0
 a0:=Tryz.isAgg0
 z0:=Tryz.sizeOf0
 v0:=zeroValue0
 t2:=underlying2
 a2:=Tryz.isAgg2
 z2:=Tryz.sizeOf2
 v2:=zeroValue2
 t3:=underlying3
 a3:=Tryz.isAgg3
 z3:=Tryz.sizeOf3
 v3:=zeroValue3
 t4:=underlying4
 a4:=Tryz.isAgg4
 z4:=Tryz.sizeOf4
 v4:=zeroValue4
 t5:=underlying5
 a5:=Tryz.isAgg5
 z5:=Tryz.sizeOf5
 v5:=zeroValue5
 t9:=underlying9
 a9:=Tryz.isAgg9
 z9:=Tryz.sizeOf9
 v9:=zeroValue9
 t21:=underlying21
 a21:=Tryz.isAgg21
 z21:=Tryz.sizeOf21
 v21:=zeroValue21
 t37:=underlying88
 a37:=Tryz.isAgg88
 z37:=Tryz.sizeOf88
 v37:=zeroValue88
 t46:=underlying176
 a46:=Tryz.isAgg176
 z46:=Tryz.sizeOf176
 v46:=zeroValue176
 t53:=underlying248
 a53:=Tryz.isAgg248
 z53:=Tryz.sizeOf248
 v53:=zeroValue248
 t75:=underlying230
 a75:=Tryz.isAgg230
 z75:=Tryz.sizeOf230
 v75:=zeroValue230
 t85:=underlying259
 a85:=Tryz.isAgg259
 z85:=Tryz.sizeOf259
 v85:=zeroValue259
 t167:=underlying258
 a167:=Tryz.isAgg258
 z167:=Tryz.sizeOf258
 v167:=zeroValue258
 t175:=underlying270
 a175:=Tryz.isAgg270
 z175:=Tryz.sizeOf270
 v175:=zeroValue270 }
open Go.RowKit in
theorem Tryz.internal_strconv_Atoi(s:ByteArray)(n:Int)(a:s.size<=18)(h:Lib.atoi s.data.toList=some n)(w:World):Calls prog 177 #[.string s] w fun e w'=>e= .returned (.tuple #[.int .i64 n,.nilIface])/\∃t,w'=Lib.bytesWorld w 5 t:=Any.internal_strconv_Atoi Tryz.lays244 s n a h w
def Tryz.lays172_ren:Go.Shelf.Ren:=⟨fun|172=>163|244=>177|245=>178|247=>190|279=>191|280=>192|281=>193|282=>194|287=>204|316=>205|171=>108|205=>206|321=>211|322=>212|243=>144|246=>169|283=>180|284=>181|285=>182|286=>183|129=>196|317=>195|318=>197|319=>198|320=>199|337=>207|338=>208|n=>n,fun|9=>9|3=>3|75=>230|76=>231|4=>4|5=>5|167=>258|37=>88|0=>0|85=>259|2=>2|168=>261|53=>248|175=>270|46=>176|210=>274|127=>279|145=>282|143=>280|21=>21|171=>247|173=>251|212=>265|51=>135|20=>20|213=>266|232=>283|233=>284|80=>68|n=>n,fun|15=>1|16=>2|17=>0|18=>3|19=>4|n=>n⟩
theorem Tryz.lays172 : Go.Proofs.Lays.n172 prog Tryz.lays172_ren := {
 mixed:=aK
 f129:=func196.trans (congrArg some aK)
 f171:=func108.trans (congrArg some aK)
 f172:=func163.trans (congrArg some aK)
 f205:=func206.trans (congrArg some aK)
 f243:=func144.trans (congrArg some aK)
 f244:=func177.trans (congrArg some aK)
 f245:=func178.trans (congrArg some aK)
 f246:=func169.trans (congrArg some aK)
 f247:=func190.trans (congrArg some aK)
 f279:=func191.trans (congrArg some aK)
 f280:=func192.trans (congrArg some aK)
 f281:=func193.trans (congrArg some aK)
 f282:=func194.trans (congrArg some aK)
 f283:=func180.trans (congrArg some aK)
 f284:=func181.trans (congrArg some aK)
 f285:=func182.trans (congrArg some aK)
 f286:=func183.trans (congrArg some aK)
 f287:=func204.trans (congrArg some aK)
 f316:=func205.trans (congrArg some aK)
 f317:=func195.trans (congrArg some aK)
 f318:=func197.trans (congrArg some aK)
 f319:=func198.trans (congrArg some aK)
 f320:=func199.trans (congrArg some aK)
 f321:=func211.trans (congrArg some aK)
 f322:=func212.trans (congrArg some aK)
 f337:=func207.trans (congrArg some aK)
 f338:=func208.trans (congrArg some aK)
 t0:=underlying0
 a0:=Tryz.isAgg0
 z0:=Tryz.sizeOf0
 v0:=zeroValue0
 t2:=underlying2
 a2:=Tryz.isAgg2
 z2:=Tryz.sizeOf2
 v2:=zeroValue2
 t3:=underlying3
 a3:=Tryz.isAgg3
 z3:=Tryz.sizeOf3
 v3:=zeroValue3
 t4:=underlying4
 a4:=Tryz.isAgg4
 z4:=Tryz.sizeOf4
 v4:=zeroValue4
 t5:=underlying5
 a5:=Tryz.isAgg5
 z5:=Tryz.sizeOf5
 v5:=zeroValue5
 t9:=underlying9
 a9:=Tryz.isAgg9
 z9:=Tryz.sizeOf9
 v9:=zeroValue9
 t20:=underlying20
 a20:=Tryz.isAgg20
 z20:=Tryz.sizeOf20
 v20:=zeroValue20
 t21:=underlying21
 a21:=Tryz.isAgg21
 z21:=Tryz.sizeOf21
 v21:=zeroValue21
 t37:=underlying88
 a37:=Tryz.isAgg88
 z37:=Tryz.sizeOf88
 v37:=zeroValue88
 t46:=underlying176
 a46:=Tryz.isAgg176
 z46:=Tryz.sizeOf176
 v46:=zeroValue176
 t51:=underlying135
 a51:=Tryz.isAgg135
 z51:=Tryz.sizeOf135
 v51:=zeroValue135
 t53:=underlying248
 a53:=Tryz.isAgg248
 z53:=Tryz.sizeOf248
 v53:=zeroValue248
 t75:=underlying230
 a75:=Tryz.isAgg230
 z75:=Tryz.sizeOf230
 v75:=zeroValue230
 t76:=underlying231
 a76:=Tryz.isAgg231
 z76:=Tryz.sizeOf231
 v76:=zeroValue231
 t85:=underlying259
 a85:=Tryz.isAgg259
 z85:=Tryz.sizeOf259
 v85:=zeroValue259
 t127:=underlying279
 a127:=Tryz.isAgg279
 z127:=Tryz.sizeOf279
 v127:=zeroValue279
 t143:=underlying280
 a143:=Tryz.isAgg280
 z143:=Tryz.sizeOf280
 v143:=zeroValue280
 t145:=underlying282
 a145:=Tryz.isAgg282
 z145:=Tryz.sizeOf282
 v145:=zeroValue282
 t167:=underlying258
 a167:=Tryz.isAgg258
 z167:=Tryz.sizeOf258
 v167:=zeroValue258
 t168:=underlying261
 a168:=Tryz.isAgg261
 z168:=Tryz.sizeOf261
 v168:=zeroValue261
 t171:=underlying247
 a171:=Tryz.isAgg247
 z171:=Tryz.sizeOf247
 v171:=zeroValue247
 t173:=underlying251
 a173:=Tryz.isAgg251
 z173:=Tryz.sizeOf251
 v173:=zeroValue251
 t175:=underlying270
 a175:=Tryz.isAgg270
 z175:=Tryz.sizeOf270
 v175:=zeroValue270
 t210:=underlying274
 a210:=Tryz.isAgg274
 z210:=Tryz.sizeOf274
 v210:=zeroValue274
 t212:=underlying265
 a212:=Tryz.isAgg265
 z212:=Tryz.sizeOf265
 v212:=zeroValue265
 t213:=underlying266
 a213:=Tryz.isAgg266
 z213:=Tryz.sizeOf266
 t232:=underlying283
 a232:=Tryz.isAgg283
 z232:=Tryz.sizeOf283
 v232:=zeroValue283
 t233:=underlying284
 a233:=Tryz.isAgg284
 z233:=Tryz.sizeOf284
 v233:=zeroValue284
 g15:=aK
 g16:=aK
 g17:=aK
 g18:=aK
 g19:=by kernel_rfl }
open Go.RowKit in
theorem Tryz.strconv_Atoi(s:ByteArray)(n:Int)(a:s.size<=18)(h:Lib.atoi s.data.toList=some n)(w:World):Calls prog 163 #[.string s] w fun e w'=>e= .returned (.tuple #[.int .i64 n,.nilIface])/\∃t,w'=Lib.bytesWorld w 5 t:=Any.strconv_Atoi Tryz.lays172 s n a h w
def Tryz.lays129_ren:Go.Shelf.Ren:=⟨fun|129=>196|n=>n,fun|53=>248|3=>3|4=>4|46=>176|5=>5|9=>9|n=>n,fun|n=>n⟩
theorem Tryz.lays129 : Go.Proofs.Lays.n129 prog Tryz.lays129_ren := {
 mixed:=aK
 f129:=func196.trans (congrArg some aK)
 t3:=underlying3
 a3:=Tryz.isAgg3
 z3:=Tryz.sizeOf3
 v3:=zeroValue3
 t4:=underlying4
 a4:=Tryz.isAgg4
 z4:=Tryz.sizeOf4
 v4:=zeroValue4
 t5:=underlying5
 a5:=Tryz.isAgg5
 z5:=Tryz.sizeOf5
 v5:=zeroValue5
 t9:=underlying9
 a9:=Tryz.isAgg9
 z9:=Tryz.sizeOf9
 v9:=zeroValue9
 t46:=underlying176
 a46:=Tryz.isAgg176
 z46:=Tryz.sizeOf176
 v46:=zeroValue176
 t53:=underlying248
 a53:=Tryz.isAgg248
 z53:=Tryz.sizeOf248
 v53:=zeroValue248 }
theorem Tryz.bits_Len64(x:Int)(w:World)(a:0<=x)(b:x<=18446744073709551615):Calls prog 196 #[.int .u64 x] w fun e w'=>e= .returned (.int .i64 (Lib.bitLen x.toNat))/\w'=w:=Any.bits_Len64 Tryz.lays129 x w a b
def Tryz.lays317_ren:Go.Shelf.Ren:=⟨fun|317=>195|n=>n,fun|3=>3|46=>176|n=>n,fun|n=>n⟩
theorem Tryz.lays317 : Go.Proofs.Lays.n317 prog Tryz.lays317_ren := {
 mixed:=aK
 f317:=func195.trans (congrArg some aK)
 t3:=underlying3
 a3:=Tryz.isAgg3
 z3:=Tryz.sizeOf3
 v3:=zeroValue3
 t46:=underlying176
 a46:=Tryz.isAgg176
 z46:=Tryz.sizeOf176
 v46:=zeroValue176 }
open Go.Lib in
theorem Tryz.internal_strconv_log10Pow2(x:Nat)(h:x<=64)(w:World):Calls prog 195 #[.int .i64 x] w fun e w'=>e= .returned (.int .i64 (Lib.l10 x))/\w'=w:=Any.internal_strconv_log10Pow2 Tryz.lays317 x h w
def Tryz.lays318_ren:Go.Shelf.Ren:=⟨fun|318=>197|n=>n,fun|3=>3|4=>4|n=>n,fun|n=>n⟩
theorem Tryz.lays318 : Go.Proofs.Lays.n318 prog Tryz.lays318_ren := {
 mixed:=aK
 f318:=func197.trans (congrArg some aK)
 t3:=underlying3
 a3:=Tryz.isAgg3
 z3:=Tryz.sizeOf3
 v3:=zeroValue3
 t4:=underlying4
 a4:=Tryz.isAgg4
 z4:=Tryz.sizeOf4
 v4:=zeroValue4 }
open Go.Lib in
theorem Tryz.internal_strconv_bool2_int(b:Bool)(w:World):Calls prog 197 #[.bool b] w fun e w'=>e= .returned (.int .i64 (if b then 1 else 0))/\w'=w:=Any.internal_strconv_bool2_int Tryz.lays318 b w
def Tryz.lays283_ren:Go.Shelf.Ren:=⟨fun|283=>180|n=>n,fun|3=>3|9=>9|4=>4|n=>n,fun|n=>n⟩
theorem Tryz.lays283 : Go.Proofs.Lays.n283 prog Tryz.lays283_ren := {
 mixed:=aK
 f283:=func180.trans (congrArg some aK)
 t3:=underlying3
 a3:=Tryz.isAgg3
 z3:=Tryz.sizeOf3
 v3:=zeroValue3
 t4:=underlying4
 a4:=Tryz.isAgg4
 z4:=Tryz.sizeOf4
 v4:=zeroValue4
 t9:=underlying9
 a9:=Tryz.isAgg9
 z9:=Tryz.sizeOf9
 v9:=zeroValue9 }
open Go.Lib in
theorem Tryz.internal_strconv_small(i:Nat)(h:i<100)(w:World):Calls prog 180 #[.int .i64 i] w fun e w'=>e= .returned (.string ⟨(Lib.decDigits i).toArray⟩)/\w'=w:=Any.internal_strconv_small Tryz.lays283 i h w
def Tryz.laysM284_ren:Go.Shelf.Ren:=⟨fun|284=>181|129=>196|317=>195|318=>197|n=>n,fun|53=>248|3=>3|212=>265|0=>0|4=>4|46=>176|5=>5|9=>9|n=>n,fun|17=>0|n=>n⟩
theorem Tryz.laysM284 : Go.Proofs.LaysM.n284 prog Tryz.laysM284_ren := {
 mixed:=aK
 f129:=func196.trans (congrArg some aK)
 f284:=func181.trans (congrArg some aK)
 f317:=func195.trans (congrArg some aK)
 f318:=func197.trans (congrArg some aK)
 t0:=underlying0
 a0:=Tryz.isAgg0
 z0:=Tryz.sizeOf0
 v0:=zeroValue0
 t3:=underlying3
 a3:=Tryz.isAgg3
 z3:=Tryz.sizeOf3
 v3:=zeroValue3
 t4:=underlying4
 a4:=Tryz.isAgg4
 z4:=Tryz.sizeOf4
 v4:=zeroValue4
 t5:=underlying5
 a5:=Tryz.isAgg5
 z5:=Tryz.sizeOf5
 v5:=zeroValue5
 t9:=underlying9
 a9:=Tryz.isAgg9
 z9:=Tryz.sizeOf9
 v9:=zeroValue9
 t46:=underlying176
 a46:=Tryz.isAgg176
 z46:=Tryz.sizeOf176
 v46:=zeroValue176
 t53:=underlying248
 a53:=Tryz.isAgg248
 z53:=Tryz.sizeOf248
 v53:=zeroValue248
 t212:=underlying265
 a212:=Tryz.isAgg265
 z212:=Tryz.sizeOf265
 v212:=zeroValue265
 g17:=aK
 i0:=aK
 i3:=aK
 i4:=aK
 i5:=aK
 i9:=aK
 i46:=aK
 i53:=aK
 i212:=aK
 m17:=by kernel_rfl }
open Go.Lib in
theorem Tryz.internal_strconv_numDigits(u:Nat)(c:1<=u)(b:u<18446744073709551616)(w:World)(a:Lib.TabIs prog w "internal/strconv.uint64pow10" .u64 Lib.pow10Tab):Calls prog 181 #[.int .u64 u] w fun e w'=>e= .returned (.int .i64 (Lib.nDigits u))/\w'=w:=Any.internal_strconv_numDigits Tryz.laysM284 u c b w a
def Tryz.lays285_ren:Go.Shelf.Ren:=⟨fun|285=>182|n=>n,fun|37=>88|53=>248|3=>3|4=>4|51=>135|9=>9|5=>5|0=>0|n=>n,fun|n=>n⟩
theorem Tryz.lays285 : Go.Proofs.Lays.n285 prog Tryz.lays285_ren := {
 mixed:=aK
 f285:=func182.trans (congrArg some aK)
 t0:=underlying0
 a0:=Tryz.isAgg0
 z0:=Tryz.sizeOf0
 v0:=zeroValue0
 t3:=underlying3
 a3:=Tryz.isAgg3
 z3:=Tryz.sizeOf3
 v3:=zeroValue3
 t4:=underlying4
 a4:=Tryz.isAgg4
 z4:=Tryz.sizeOf4
 v4:=zeroValue4
 t5:=underlying5
 a5:=Tryz.isAgg5
 z5:=Tryz.sizeOf5
 v5:=zeroValue5
 t9:=underlying9
 a9:=Tryz.isAgg9
 z9:=Tryz.sizeOf9
 v9:=zeroValue9
 t37:=underlying88
 a37:=Tryz.isAgg88
 z37:=Tryz.sizeOf88
 v37:=zeroValue88
 t51:=underlying135
 a51:=Tryz.isAgg135
 z51:=Tryz.sizeOf135
 v51:=zeroValue135
 t53:=underlying248
 a53:=Tryz.isAgg248
 z53:=Tryz.sizeOf248
 v53:=zeroValue248 }
open Go.RowKit Go.Sort Go.Lib in
theorem Tryz.internal_strconv_formatBase10(a off f:Nat)(u:Nat)(d:Array UInt8)(w:World)(k:Holds (fun(b:UInt8)=>Value.int .u8 (b.toNat:Int)) w a off d)(i:u<10 ^ d.size)(c:u<18446744073709551616)(g:d.size<4611686018427387904):Calls prog 182 #[.slice (some ⟨a,off,none⟩) d.size f,.int .u64 u] w fun e w'=>e= .returned (.tuple #[])/\∃(n j:Nat) (h:Array UInt8),w'=(putRow (fun(b:UInt8)=>Value.int .u8 (b.toNat:Int)) w a off h).drewN n/\FmtInv d.size u 0 j h:=Any.internal_strconv_formatBase10 Tryz.lays285 a off f u d w k i c g
def Tryz.laysM246_ren:Go.Shelf.Ren:=⟨fun|246=>169|283=>180|284=>181|285=>182|286=>183|129=>196|317=>195|318=>197|319=>198|320=>199|337=>207|338=>208|n=>n,fun|2=>2|3=>3|9=>9|4=>4|171=>247|0=>0|53=>248|37=>88|5=>5|173=>251|212=>265|51=>135|20=>20|213=>266|46=>176|232=>283|233=>284|n=>n,fun|17=>0|18=>3|19=>4|n=>n⟩
theorem Tryz.laysM246 : Go.Proofs.LaysM.n246 prog Tryz.laysM246_ren := {
 mixed:=aK
 f129:=func196.trans (congrArg some aK)
 f246:=func169.trans (congrArg some aK)
 f283:=func180.trans (congrArg some aK)
 f284:=func181.trans (congrArg some aK)
 f285:=func182.trans (congrArg some aK)
 f286:=func183.trans (congrArg some aK)
 f317:=func195.trans (congrArg some aK)
 f318:=func197.trans (congrArg some aK)
 f319:=func198.trans (congrArg some aK)
 f320:=func199.trans (congrArg some aK)
 f337:=func207.trans (congrArg some aK)
 f338:=func208.trans (congrArg some aK)
 t0:=underlying0
 a0:=Tryz.isAgg0
 z0:=Tryz.sizeOf0
 v0:=zeroValue0
 t2:=underlying2
 a2:=Tryz.isAgg2
 z2:=Tryz.sizeOf2
 v2:=zeroValue2
 t3:=underlying3
 a3:=Tryz.isAgg3
 z3:=Tryz.sizeOf3
 v3:=zeroValue3
 t4:=underlying4
 a4:=Tryz.isAgg4
 z4:=Tryz.sizeOf4
 v4:=zeroValue4
 t5:=underlying5
 a5:=Tryz.isAgg5
 z5:=Tryz.sizeOf5
 v5:=zeroValue5
 t9:=underlying9
 a9:=Tryz.isAgg9
 z9:=Tryz.sizeOf9
 v9:=zeroValue9
 t20:=underlying20
 a20:=Tryz.isAgg20
 z20:=Tryz.sizeOf20
 v20:=zeroValue20
 t37:=underlying88
 a37:=Tryz.isAgg88
 z37:=Tryz.sizeOf88
 v37:=zeroValue88
 t46:=underlying176
 a46:=Tryz.isAgg176
 z46:=Tryz.sizeOf176
 v46:=zeroValue176
 t51:=underlying135
 a51:=Tryz.isAgg135
 z51:=Tryz.sizeOf135
 v51:=zeroValue135
 t53:=underlying248
 a53:=Tryz.isAgg248
 z53:=Tryz.sizeOf248
 v53:=zeroValue248
 t171:=underlying247
 a171:=Tryz.isAgg247
 z171:=Tryz.sizeOf247
 v171:=zeroValue247
 t173:=underlying251
 a173:=Tryz.isAgg251
 z173:=Tryz.sizeOf251
 v173:=zeroValue251
 t212:=underlying265
 a212:=Tryz.isAgg265
 z212:=Tryz.sizeOf265
 v212:=zeroValue265
 t213:=underlying266
 a213:=Tryz.isAgg266
 z213:=Tryz.sizeOf266
 t232:=underlying283
 a232:=Tryz.isAgg283
 z232:=Tryz.sizeOf283
 v232:=zeroValue283
 t233:=underlying284
 a233:=Tryz.isAgg284
 z233:=Tryz.sizeOf284
 v233:=zeroValue284
 g17:=aK
 g18:=aK
 g19:=aK
 i0:=aK
 i2:=aK
 i3:=aK
 i4:=aK
 i5:=aK
 i9:=aK
 i20:=aK
 i37:=aK
 i46:=aK
 i51:=aK
 i53:=aK
 i171:=aK
 i173:=aK
 i212:=aK
 i232:=aK
 i233:=aK
 m17:=aK
 m18:=aK
 m19:=by kernel_rfl }
open Go.RowKit Go.Sort Go.Lib in
theorem Tryz.internal_strconv_FormatInt_10(n:Int)(b: -9223372036854775808<=n)(c:n<=9223372036854775807)(w:World)(a:Lib.TabIs prog w "internal/strconv.uint64pow10" .u64 Lib.pow10Tab):Calls prog 169 #[.int .i64 n,.int .i64 10] w fun e w'=>e= .returned (.string ⟨(Lib.itoa n).toArray⟩)/\∃k d,w'=grow (w.drewN k) d:=Any.internal_strconv_FormatInt_10 Tryz.laysM246 n b c w a
def Tryz.lays246_ren:Go.Shelf.Ren:=⟨fun|246=>169|283=>180|284=>181|285=>182|286=>183|129=>196|317=>195|318=>197|319=>198|320=>199|337=>207|338=>208|n=>n,fun|2=>2|3=>3|9=>9|4=>4|171=>247|0=>0|53=>248|37=>88|5=>5|173=>251|212=>265|51=>135|20=>20|213=>266|46=>176|232=>283|233=>284|n=>n,fun|17=>0|18=>3|19=>4|n=>n⟩
theorem Tryz.lays246 : Go.Proofs.Lays.n246 prog Tryz.lays246_ren := {
 mixed:=aK
 f129:=func196.trans (congrArg some aK)
 f246:=func169.trans (congrArg some aK)
 f283:=func180.trans (congrArg some aK)
 f284:=func181.trans (congrArg some aK)
 f285:=func182.trans (congrArg some aK)
 f286:=func183.trans (congrArg some aK)
 f317:=func195.trans (congrArg some aK)
 f318:=func197.trans (congrArg some aK)
 f319:=func198.trans (congrArg some aK)
 f320:=func199.trans (congrArg some aK)
 f337:=func207.trans (congrArg some aK)
 f338:=func208.trans (congrArg some aK)
 t0:=underlying0
 a0:=Tryz.isAgg0
 z0:=Tryz.sizeOf0
 v0:=zeroValue0
 t2:=underlying2
 a2:=Tryz.isAgg2
 z2:=Tryz.sizeOf2
 v2:=zeroValue2
 t3:=underlying3
 a3:=Tryz.isAgg3
 z3:=Tryz.sizeOf3
 v3:=zeroValue3
 t4:=underlying4
 a4:=Tryz.isAgg4
 z4:=Tryz.sizeOf4
 v4:=zeroValue4
 t5:=underlying5
 a5:=Tryz.isAgg5
 z5:=Tryz.sizeOf5
 v5:=zeroValue5
 t9:=underlying9
 a9:=Tryz.isAgg9
 z9:=Tryz.sizeOf9
 v9:=zeroValue9
 t20:=underlying20
 a20:=Tryz.isAgg20
 z20:=Tryz.sizeOf20
 v20:=zeroValue20
 t37:=underlying88
 a37:=Tryz.isAgg88
 z37:=Tryz.sizeOf88
 v37:=zeroValue88
 t46:=underlying176
 a46:=Tryz.isAgg176
 z46:=Tryz.sizeOf176
 v46:=zeroValue176
 t51:=underlying135
 a51:=Tryz.isAgg135
 z51:=Tryz.sizeOf135
 v51:=zeroValue135
 t53:=underlying248
 a53:=Tryz.isAgg248
 z53:=Tryz.sizeOf248
 v53:=zeroValue248
 t171:=underlying247
 a171:=Tryz.isAgg247
 z171:=Tryz.sizeOf247
 v171:=zeroValue247
 t173:=underlying251
 a173:=Tryz.isAgg251
 z173:=Tryz.sizeOf251
 v173:=zeroValue251
 t212:=underlying265
 a212:=Tryz.isAgg265
 z212:=Tryz.sizeOf265
 v212:=zeroValue265
 t213:=underlying266
 a213:=Tryz.isAgg266
 z213:=Tryz.sizeOf266
 t232:=underlying283
 a232:=Tryz.isAgg283
 z232:=Tryz.sizeOf283
 v232:=zeroValue283
 t233:=underlying284
 a233:=Tryz.isAgg284
 z233:=Tryz.sizeOf284
 v233:=zeroValue284
 g17:=aK
 g18:=aK
 g19:=by kernel_rfl }
open Go.RowKit Go.Sort Go.Lib in
theorem Tryz.internal_strconv_FormatInt_10_small(i:Nat)(a:i<100)(w:World):Calls prog 169 #[.int .i64 i,.int .i64 10] w fun e w'=>e= .returned (.string ⟨(Lib.decDigits i).toArray⟩)/\w'=w:=Any.internal_strconv_FormatInt_10_small Tryz.lays246 i a w
def Tryz.laysM243_ren:Go.Shelf.Ren:=⟨fun|243=>144|246=>169|283=>180|284=>181|285=>182|286=>183|129=>196|317=>195|318=>197|319=>198|320=>199|337=>207|338=>208|n=>n,fun|3=>3|9=>9|2=>2|4=>4|171=>247|0=>0|53=>248|37=>88|5=>5|173=>251|212=>265|51=>135|20=>20|213=>266|46=>176|232=>283|233=>284|n=>n,fun|17=>0|18=>3|19=>4|n=>n⟩
theorem Tryz.laysM243 : Go.Proofs.LaysM.n243 prog Tryz.laysM243_ren := {
 mixed:=aK
 f129:=func196.trans (congrArg some aK)
 f243:=func144.trans (congrArg some aK)
 f246:=func169.trans (congrArg some aK)
 f283:=func180.trans (congrArg some aK)
 f284:=func181.trans (congrArg some aK)
 f285:=func182.trans (congrArg some aK)
 f286:=func183.trans (congrArg some aK)
 f317:=func195.trans (congrArg some aK)
 f318:=func197.trans (congrArg some aK)
 f319:=func198.trans (congrArg some aK)
 f320:=func199.trans (congrArg some aK)
 f337:=func207.trans (congrArg some aK)
 f338:=func208.trans (congrArg some aK)
 t0:=underlying0
 a0:=Tryz.isAgg0
 z0:=Tryz.sizeOf0
 v0:=zeroValue0
 t2:=underlying2
 a2:=Tryz.isAgg2
 z2:=Tryz.sizeOf2
 v2:=zeroValue2
 t3:=underlying3
 a3:=Tryz.isAgg3
 z3:=Tryz.sizeOf3
 v3:=zeroValue3
 t4:=underlying4
 a4:=Tryz.isAgg4
 z4:=Tryz.sizeOf4
 v4:=zeroValue4
 t5:=underlying5
 a5:=Tryz.isAgg5
 z5:=Tryz.sizeOf5
 v5:=zeroValue5
 t9:=underlying9
 a9:=Tryz.isAgg9
 z9:=Tryz.sizeOf9
 v9:=zeroValue9
 t20:=underlying20
 a20:=Tryz.isAgg20
 z20:=Tryz.sizeOf20
 v20:=zeroValue20
 t37:=underlying88
 a37:=Tryz.isAgg88
 z37:=Tryz.sizeOf88
 v37:=zeroValue88
 t46:=underlying176
 a46:=Tryz.isAgg176
 z46:=Tryz.sizeOf176
 v46:=zeroValue176
 t51:=underlying135
 a51:=Tryz.isAgg135
 z51:=Tryz.sizeOf135
 v51:=zeroValue135
 t53:=underlying248
 a53:=Tryz.isAgg248
 z53:=Tryz.sizeOf248
 v53:=zeroValue248
 t171:=underlying247
 a171:=Tryz.isAgg247
 z171:=Tryz.sizeOf247
 v171:=zeroValue247
 t173:=underlying251
 a173:=Tryz.isAgg251
 z173:=Tryz.sizeOf251
 v173:=zeroValue251
 t212:=underlying265
 a212:=Tryz.isAgg265
 z212:=Tryz.sizeOf265
 v212:=zeroValue265
 t213:=underlying266
 a213:=Tryz.isAgg266
 z213:=Tryz.sizeOf266
 t232:=underlying283
 a232:=Tryz.isAgg283
 z232:=Tryz.sizeOf283
 v232:=zeroValue283
 t233:=underlying284
 a233:=Tryz.isAgg284
 z233:=Tryz.sizeOf284
 v233:=zeroValue284
 g17:=aK
 g18:=aK
 g19:=aK
 i0:=aK
 i2:=aK
 i3:=aK
 i4:=aK
 i5:=aK
 i9:=aK
 i20:=aK
 i37:=aK
 i46:=aK
 i51:=aK
 i53:=aK
 i171:=aK
 i173:=aK
 i212:=aK
 i232:=aK
 i233:=aK
 m17:=aK
 m18:=aK
 m19:=by kernel_rfl }
open Go.RowKit Go.Sort Go.Lib in
theorem Tryz.internal_strconv_Itoa(n:Int)(b: -9223372036854775808<=n)(c:n<=9223372036854775807)(w:World)(a:Lib.TabIs prog w "internal/strconv.uint64pow10" .u64 Lib.pow10Tab):Calls prog 144 #[.int .i64 n] w fun e w'=>e= .returned (.string ⟨(Lib.itoa n).toArray⟩)/\∃k d,w'=grow (w.drewN k) d:=Any.internal_strconv_Itoa Tryz.laysM243 n b c w a
def Tryz.lays243_ren:Go.Shelf.Ren:=⟨fun|243=>144|246=>169|283=>180|284=>181|285=>182|286=>183|129=>196|317=>195|318=>197|319=>198|320=>199|337=>207|338=>208|n=>n,fun|3=>3|9=>9|2=>2|4=>4|171=>247|0=>0|53=>248|37=>88|5=>5|173=>251|212=>265|51=>135|20=>20|213=>266|46=>176|232=>283|233=>284|n=>n,fun|17=>0|18=>3|19=>4|n=>n⟩
theorem Tryz.lays243 : Go.Proofs.Lays.n243 prog Tryz.lays243_ren := {
 mixed:=aK
 f129:=func196.trans (congrArg some aK)
 f243:=func144.trans (congrArg some aK)
 f246:=func169.trans (congrArg some aK)
 f283:=func180.trans (congrArg some aK)
 f284:=func181.trans (congrArg some aK)
 f285:=func182.trans (congrArg some aK)
 f286:=func183.trans (congrArg some aK)
 f317:=func195.trans (congrArg some aK)
 f318:=func197.trans (congrArg some aK)
 f319:=func198.trans (congrArg some aK)
 f320:=func199.trans (congrArg some aK)
 f337:=func207.trans (congrArg some aK)
 f338:=func208.trans (congrArg some aK)
 t0:=underlying0
 a0:=Tryz.isAgg0
 z0:=Tryz.sizeOf0
 v0:=zeroValue0
 t2:=underlying2
 a2:=Tryz.isAgg2
 z2:=Tryz.sizeOf2
 v2:=zeroValue2
 t3:=underlying3
 a3:=Tryz.isAgg3
 z3:=Tryz.sizeOf3
 v3:=zeroValue3
 t4:=underlying4
 a4:=Tryz.isAgg4
 z4:=Tryz.sizeOf4
 v4:=zeroValue4
 t5:=underlying5
 a5:=Tryz.isAgg5
 z5:=Tryz.sizeOf5
 v5:=zeroValue5
 t9:=underlying9
 a9:=Tryz.isAgg9
 z9:=Tryz.sizeOf9
 v9:=zeroValue9
 t20:=underlying20
 a20:=Tryz.isAgg20
 z20:=Tryz.sizeOf20
 v20:=zeroValue20
 t37:=underlying88
 a37:=Tryz.isAgg88
 z37:=Tryz.sizeOf88
 v37:=zeroValue88
 t46:=underlying176
 a46:=Tryz.isAgg176
 z46:=Tryz.sizeOf176
 v46:=zeroValue176
 t51:=underlying135
 a51:=Tryz.isAgg135
 z51:=Tryz.sizeOf135
 v51:=zeroValue135
 t53:=underlying248
 a53:=Tryz.isAgg248
 z53:=Tryz.sizeOf248
 v53:=zeroValue248
 t171:=underlying247
 a171:=Tryz.isAgg247
 z171:=Tryz.sizeOf247
 v171:=zeroValue247
 t173:=underlying251
 a173:=Tryz.isAgg251
 z173:=Tryz.sizeOf251
 v173:=zeroValue251
 t212:=underlying265
 a212:=Tryz.isAgg265
 z212:=Tryz.sizeOf265
 v212:=zeroValue265
 t213:=underlying266
 a213:=Tryz.isAgg266
 z213:=Tryz.sizeOf266
 t232:=underlying283
 a232:=Tryz.isAgg283
 z232:=Tryz.sizeOf283
 v232:=zeroValue283
 t233:=underlying284
 a233:=Tryz.isAgg284
 z233:=Tryz.sizeOf284
 v233:=zeroValue284
 g17:=aK
 g18:=aK
 g19:=by kernel_rfl }
open Go.RowKit Go.Sort Go.Lib in
theorem Tryz.internal_strconv_Itoa_small(i:Nat)(a:i<100)(w:World):Calls prog 144 #[.int .i64 i] w fun e w'=>e= .returned (.string ⟨(Lib.decDigits i).toArray⟩)/\w'=w:=Any.internal_strconv_Itoa_small Tryz.lays243 i a w
def Tryz.laysM171_ren:Go.Shelf.Ren:=⟨fun|171=>108|243=>144|246=>169|283=>180|284=>181|285=>182|286=>183|129=>196|317=>195|318=>197|319=>198|320=>199|337=>207|338=>208|n=>n,fun|3=>3|9=>9|2=>2|4=>4|171=>247|0=>0|53=>248|37=>88|5=>5|173=>251|212=>265|51=>135|20=>20|213=>266|46=>176|232=>283|233=>284|n=>n,fun|17=>0|18=>3|19=>4|n=>n⟩
theorem Tryz.laysM171 : Go.Proofs.LaysM.n171 prog Tryz.laysM171_ren := {
 mixed:=aK
 f129:=func196.trans (congrArg some aK)
 f171:=func108.trans (congrArg some aK)
 f243:=func144.trans (congrArg some aK)
 f246:=func169.trans (congrArg some aK)
 f283:=func180.trans (congrArg some aK)
 f284:=func181.trans (congrArg some aK)
 f285:=func182.trans (congrArg some aK)
 f286:=func183.trans (congrArg some aK)
 f317:=func195.trans (congrArg some aK)
 f318:=func197.trans (congrArg some aK)
 f319:=func198.trans (congrArg some aK)
 f320:=func199.trans (congrArg some aK)
 f337:=func207.trans (congrArg some aK)
 f338:=func208.trans (congrArg some aK)
 t0:=underlying0
 a0:=Tryz.isAgg0
 z0:=Tryz.sizeOf0
 v0:=zeroValue0
 t2:=underlying2
 a2:=Tryz.isAgg2
 z2:=Tryz.sizeOf2
 v2:=zeroValue2
 t3:=underlying3
 a3:=Tryz.isAgg3
 z3:=Tryz.sizeOf3
 v3:=zeroValue3
 t4:=underlying4
 a4:=Tryz.isAgg4
 z4:=Tryz.sizeOf4
 v4:=zeroValue4
 t5:=underlying5
 a5:=Tryz.isAgg5
 z5:=Tryz.sizeOf5
 v5:=zeroValue5
 t9:=underlying9
 a9:=Tryz.isAgg9
 z9:=Tryz.sizeOf9
 v9:=zeroValue9
 t20:=underlying20
 a20:=Tryz.isAgg20
 z20:=Tryz.sizeOf20
 v20:=zeroValue20
 t37:=underlying88
 a37:=Tryz.isAgg88
 z37:=Tryz.sizeOf88
 v37:=zeroValue88
 t46:=underlying176
 a46:=Tryz.isAgg176
 z46:=Tryz.sizeOf176
 v46:=zeroValue176
 t51:=underlying135
 a51:=Tryz.isAgg135
 z51:=Tryz.sizeOf135
 v51:=zeroValue135
 t53:=underlying248
 a53:=Tryz.isAgg248
 z53:=Tryz.sizeOf248
 v53:=zeroValue248
 t171:=underlying247
 a171:=Tryz.isAgg247
 z171:=Tryz.sizeOf247
 v171:=zeroValue247
 t173:=underlying251
 a173:=Tryz.isAgg251
 z173:=Tryz.sizeOf251
 v173:=zeroValue251
 t212:=underlying265
 a212:=Tryz.isAgg265
 z212:=Tryz.sizeOf265
 v212:=zeroValue265
 t213:=underlying266
 a213:=Tryz.isAgg266
 z213:=Tryz.sizeOf266
 t232:=underlying283
 a232:=Tryz.isAgg283
 z232:=Tryz.sizeOf283
 v232:=zeroValue283
 t233:=underlying284
 a233:=Tryz.isAgg284
 z233:=Tryz.sizeOf284
 v233:=zeroValue284
 g17:=aK
 g18:=aK
 g19:=aK
 i0:=aK
 i2:=aK
 i3:=aK
 i4:=aK
 i5:=aK
 i9:=aK
 i20:=aK
 i37:=aK
 i46:=aK
 i51:=aK
 i53:=aK
 i171:=aK
 i173:=aK
 i212:=aK
 i232:=aK
 i233:=aK
 m17:=aK
 m18:=aK
 m19:=by kernel_rfl }
open Go.RowKit Go.Sort Go.Lib in
theorem Tryz.strconv_Itoa(n:Int)(b: -9223372036854775808<=n)(c:n<=9223372036854775807)(w:World)(a:Lib.TabIs prog w "internal/strconv.uint64pow10" .u64 Lib.pow10Tab):Calls prog 108 #[.int .i64 n] w fun e w'=>e= .returned (.string ⟨(Lib.itoa n).toArray⟩)/\∃k d,w'=grow (w.drewN k) d:=Any.strconv_Itoa Tryz.laysM171 n b c w a
def Tryz.lays171_ren:Go.Shelf.Ren:=⟨fun|171=>108|243=>144|246=>169|283=>180|284=>181|285=>182|286=>183|129=>196|317=>195|318=>197|319=>198|320=>199|337=>207|338=>208|n=>n,fun|3=>3|9=>9|2=>2|4=>4|171=>247|0=>0|53=>248|37=>88|5=>5|173=>251|212=>265|51=>135|20=>20|213=>266|46=>176|232=>283|233=>284|n=>n,fun|17=>0|18=>3|19=>4|n=>n⟩
theorem Tryz.lays171 : Go.Proofs.Lays.n171 prog Tryz.lays171_ren := {
 mixed:=aK
 f129:=func196.trans (congrArg some aK)
 f171:=func108.trans (congrArg some aK)
 f243:=func144.trans (congrArg some aK)
 f246:=func169.trans (congrArg some aK)
 f283:=func180.trans (congrArg some aK)
 f284:=func181.trans (congrArg some aK)
 f285:=func182.trans (congrArg some aK)
 f286:=func183.trans (congrArg some aK)
 f317:=func195.trans (congrArg some aK)
 f318:=func197.trans (congrArg some aK)
 f319:=func198.trans (congrArg some aK)
 f320:=func199.trans (congrArg some aK)
 f337:=func207.trans (congrArg some aK)
 f338:=func208.trans (congrArg some aK)
 t0:=underlying0
 a0:=Tryz.isAgg0
 z0:=Tryz.sizeOf0
 v0:=zeroValue0
 t2:=underlying2
 a2:=Tryz.isAgg2
 z2:=Tryz.sizeOf2
 v2:=zeroValue2
 t3:=underlying3
 a3:=Tryz.isAgg3
 z3:=Tryz.sizeOf3
 v3:=zeroValue3
 t4:=underlying4
 a4:=Tryz.isAgg4
 z4:=Tryz.sizeOf4
 v4:=zeroValue4
 t5:=underlying5
 a5:=Tryz.isAgg5
 z5:=Tryz.sizeOf5
 v5:=zeroValue5
 t9:=underlying9
 a9:=Tryz.isAgg9
 z9:=Tryz.sizeOf9
 v9:=zeroValue9
 t20:=underlying20
 a20:=Tryz.isAgg20
 z20:=Tryz.sizeOf20
 v20:=zeroValue20
 t37:=underlying88
 a37:=Tryz.isAgg88
 z37:=Tryz.sizeOf88
 v37:=zeroValue88
 t46:=underlying176
 a46:=Tryz.isAgg176
 z46:=Tryz.sizeOf176
 v46:=zeroValue176
 t51:=underlying135
 a51:=Tryz.isAgg135
 z51:=Tryz.sizeOf135
 v51:=zeroValue135
 t53:=underlying248
 a53:=Tryz.isAgg248
 z53:=Tryz.sizeOf248
 v53:=zeroValue248
 t171:=underlying247
 a171:=Tryz.isAgg247
 z171:=Tryz.sizeOf247
 v171:=zeroValue247
 t173:=underlying251
 a173:=Tryz.isAgg251
 z173:=Tryz.sizeOf251
 v173:=zeroValue251
 t212:=underlying265
 a212:=Tryz.isAgg265
 z212:=Tryz.sizeOf265
 v212:=zeroValue265
 t213:=underlying266
 a213:=Tryz.isAgg266
 z213:=Tryz.sizeOf266
 t232:=underlying283
 a232:=Tryz.isAgg283
 z232:=Tryz.sizeOf283
 v232:=zeroValue283
 t233:=underlying284
 a233:=Tryz.isAgg284
 z233:=Tryz.sizeOf284
 v233:=zeroValue284
 g17:=aK
 g18:=aK
 g19:=by kernel_rfl }
open Go.RowKit Go.Sort Go.Lib in
theorem Tryz.strconv_Itoa_small(i:Nat)(a:i<100)(w:World):Calls prog 108 #[.int .i64 i] w fun e w'=>e= .returned (.string ⟨(Lib.decDigits i).toArray⟩)/\w'=w:=Any.strconv_Itoa_small Tryz.lays171 i a w
end Go.Proofs
namespace Rf
theorem qC(j:Nat)(h:j<16): (⟨#[65,66,67,68,69,70,71,72,73,74,75,76,77,78,79,80]⟩:ByteArray).extract j (j+1)=L5 (j:Int):=by
 have a:j=0\/j=1\/j=2\/j=3\/j=4\/j=5\/j=6\/j=7\/j=8\/j=9\/j=10\/j=11\/j=12\/j=13\/j=14\/j=15:=aD;refine WN ?_;rw[G3];rcases a with rfl|rfl|rfl|rfl|rfl|rfl|rfl|rfl|rfl|rfl|rfl|rfl|rfl|rfl|rfl|rfl<;>rfl
end Rf
namespace Go.Proofs.Q
open Rf _root_.Go.Proofs.Tryz
open Go.RowKit
theorem nD(i:Int)(w:World)(a:0<=i)(c:i<16):Calls prog 159 #[.int .i64 i] w fun r w'=>r= .returned (.string (L5 i))/\w'=w:=by
 obtain⟨j,rfl⟩:=Int.eq_ofNat_of_zero_le a;have b:=aO (qC j aD);go_enter func159,ntmps159;go_wp2;go_ret;exact⟨E7 b.o,rfl⟩
theorem dY(b:Bool)(p:AB)(w:World)(n:yu b p)(j:Tab w):Calls prog 129 #[.agg #[.int .i64 p.kind,.string p.name,.int .i64 p.value,.int .i64 p.args],.bool b] w fun r w'=>r= .returned (.string (IC b p))/\Below w.heap.size w w':=by
 have i:=aO j;have g:=aO n;clear j n
 cases c1: (p.kind==1)
 ·cases c: (p.kind==2)
  ·cases l: (p.kind==4)
   ·have a:Hid (IC b p=p.name):=pX b p c1 c l;go_enter func129,ntmps129;go_wp2;go_ret;exact⟨E7 a.o.symm,aM⟩
   ·have a:Hid (IC b p=⟨#[33]⟩):=tH b p c1 c l;go_enter func129,ntmps129;go_wp2;go_ret;exact⟨E7 a.o.symm,aM⟩
  ·have a:Hid (IC b p=FR p.value):=vK b p c1 c;obtain⟨e,f⟩:=(yu.a g.o).2.1 (bT c);go_enter func129,ntmps129;go_wp2_with (go_at_call 108;refine(Tryz.strconv_Itoa p.value aD aD _ (Tab.below i.o ((bZ _ w).alloc (aX _) _))).mono ?_;rintro r o ⟨rfl,k,s,d⟩);go_ret;exact⟨E7 a.o.symm,((bZ _ w).alloc (aX _) _).trans ((NU _ _ _).mono aE)⟩
 ·cases b with
  |true=>
   have a:Hid (IC true p=L5 p.value):=uJ p c1;obtain⟨e,f⟩:=yu.l g.o (bT c1);go_enter func129,ntmps129;go_wp2_with (go_at_call 159;refine(nD p.value _ e f).mono ?_;rintro r o ⟨rfl,rfl⟩);go_ret;exact⟨E7 a.o.symm,aM⟩
  |false=>
   have a:Hid (IC false p=⟨#[95]⟩++FR (p.value+1)):=sH p c1;obtain⟨e,f⟩:=(yu.a g.o).1 (bT c1)
   have q: (⟨(Go.Lib.itoa (p.value+1)).toArray⟩:ByteArray).size<=21:=by
    have:=Go.Lib.itoa_length_le (p.value+1) aD aD;simpa[ByteArray.size] using this
   have m:=Go.Lib.itoa_length_le (p.value+1) aD aD;have h: ((Go.Lib.itoa (p.value+1)).length:Int)<=21:=aD;go_enter func129,ntmps129;go_wp2_with (go_at_call 108;refine(Tryz.strconv_Itoa (p.value+1) aD aD _ (Tab.below i.o ((bZ _ w).alloc (aX _) _))).mono ?_;rintro r o ⟨rfl,k,s,d⟩);go_ret;exact⟨E7 a.o.symm,((bZ _ w).alloc (aX _) _).trans ((NU _ _ _).mono aE)⟩
end Go.Proofs.Q
namespace Go
open Go.RowKit
theorem nM{α:Type}{w:World}{base:Nat}{e:TypeId}{size:Nat}{C:α->List Value}(B:∀x,(C x).length=size){g n a:Nat}{b:List α}{x:α}(h:aj w base e size C (.slice (some ⟨g,0,none⟩) (n+1) a) (b++[x])):aj w base e size C (.slice (some ⟨g,0,none⟩) n a) b:=by
 obtain⟨D,k⟩:=h.own;rcases k with⟨k,_⟩|⟨v,f,j,y,p,u,q,s,z,t⟩
 ·cases k
 ·obtain⟨rfl,A,rfl⟩:g=v/\n+1=(b++[x]).length/\a=f:=by injection y with c r o;injection c with c;injection c with c;exact⟨c,r,o⟩
  have i:n=b.length:=by simp at A;omega
  subst i;have d:=GZ C B b;refine⟨d,.inr ⟨g,a,j,rfl,p,u,by simp at q;omega,s,z,?_⟩⟩;have m:=congrArg (List.take (b.length*size)) t;rw[List.take_take,List.flatMap_append,List.take_append_of_le_length aD,bR (l:=List.flatMap C b) aD] at m;rw[<-m];congr 1;rw[bL,Nat.add_mul];omega
theorem mN{α:Type}{w:World}{base:Nat}{e:TypeId}{C:α->List Value}(l:∀x,(C x).length=1){g n b:Nat}{a:List α}{x x':α}{u:Value}(h:aj w base e 1 C (.slice (some ⟨g,0,none⟩) n b) (a++[x]))(hx:C x'=[u]):aj (w.setCell ⟨g,a.length,none⟩ u) base e 1 C (.slice (some ⟨g,0,none⟩) n b) (a++[x']):=by
 obtain⟨E,k⟩:=h.own;rcases k with⟨k,_⟩|⟨z,f,i,A,p,v,q,s,B,t⟩
 ·cases k
 ·obtain⟨rfl,D,rfl⟩:g=z/\n=(a++[x]).length/\b=f:=by injection A with d r o;injection d with d;injection d with d;exact⟨d,r,o⟩
  subst D;have m:=GZ C l a;have j:=l x;refine⟨?_,.inr ⟨g,b,i.setIfInBounds a.length u,aE,p,?_,by simpa using q,s,by simpa using B,?_⟩⟩
  ·rw[GZ C l]
  ·simp[World.setCell,Array.getElem?_modify,v]
  ·rw[Array.toList_setIfInBounds,List.take_set];have c: ((a++[x']).length)=(a++[x]).length:=aE;rw[c,t,List.flatMap_append,List.flatMap_append,List.set_append_right _ _ aD,OY,OY,hx];have:a.length -(List.flatMap C a).length=0:=aD;rw[this]
   match hcx:C x,j with
   |[y],_=>rfl
end Go
namespace Go.Proofs.Q
open Rf _root_.Go.Proofs.Tryz
open Go.RowKit
def DT(n:Nat):List Value:=[.int .i64 (n:Int)]
theorem GC(s:Nat): (DT s).length=1:=rfl
theorem TG(s:Nat):∀u∈DT s,u.oneCell'=true:=by
 intro u a;simp only[DT,List.mem_cons,dF,or_false] at a;subst a;rfl
theorem Tryz.Df:D7 prog 24 3 1 8 (.int .i64 0):=⟨underlying24,aK,rfl,aF,aF⟩
def aDQ(b:Bool)(w:World)(ps:List AB)(k:Nat)(c a:Value)(wr:World):Prop:=∃(s:ByteArray) (st:List Nat),c= .string s/\aj wr w.heap.size 3 1 DT a st.reverse/\Below w.heap.size w wr/\(∀x∈st,1<=x/\x<=4)/\st.length<=k/\Hid (s++IB b (ps.drop k) st=NJ b ps)
theorem aDa(v:Int)(p:AB):isV v p=(p.kind==1&&p.value==v):=rfl
theorem U8(p:AB)(v:Int)(w:World):Calls prog 209 #[.agg #[.int .i64 p.kind,.string p.name,.int .i64 p.value,.int .i64 p.args],.int .i64 v] w fun r w'=>r= .returned (.bool (isV v p))/\Below w.heap.size w w':=by
 have a:=aO (aDa v p)
 cases c1: (p.kind==1)
 ·go_enter func209,ntmps209;go_wp2;go_ret;exact⟨C5 (by rw[a.o,c1];rfl),aM⟩
 ·go_enter func209,ntmps209;go_wp2;go_ret;exact⟨C5 (by rw[a.o,c1];rfl),aM⟩
theorem Seen.parts{w:World}{g off n c:Nat}{ps:List AB}(h:Seen w 129 AH (.slice (some ⟨g,off,none⟩) n c) ps)(k:Nat)(p:AB)(a:ps[k]?=some p):w.cell? ⟨g,off+k*4,none⟩=some (.int .i64 p.kind)/\w.cell? ⟨g,off+k*4+1,none⟩=some (.string p.name)/\w.cell? ⟨g,off+k*4+2,none⟩=some (.int .i64 p.value)/\w.cell? ⟨g,off+k*4+3,none⟩=some (.int .i64 p.args):=by
 have f:=h.cells BC k p a 0 _ rfl;have b:=h.cells BC k p a 1 _ rfl;have d:=h.cells BC k p a 2 _ rfl;have e:=h.cells BC k p a 3 _ rfl;simp only[<-Nat.add_assoc,dG] at f b d e;exact⟨f,b,d,e⟩
theorem I6(w:World)(a:Option Addr)(n c:Nat)(ps:List AB)(h:Seen w 129 AH (.slice a n c) ps)(u:∀x∈ps,0<=x.args/\x.args<=4)(I:ps.length<=100000):Calls prog 173 #[.slice a n c] w fun r w'=>r= .returned (.int .i64 (CN ps))/\Below w.heap.size w w':=by
 have B:n=ps.length:=h.len;subst B;have o:=aO h;have z:=aO u;clear h u;go_enter func173,ntmps173;go_wp2_with fail;go_loopw [3,8] (fun y s wr=>∃(k:Nat) (m:Int),k<=ps.length/\s= .int .i64 k/\y= .int .i64 m/\ -(k:Int)<=m/\m<=1+3*k/\Below w.heap.size w wr/\Hid (CN ps=k+H6 m (ps.drop k))) (fun _ s _=>ps.length -(intOf s).toNat)
 case atStart=>exact⟨0,1,aD,rfl,rfl,aD,aD,bZ _ _,by unfold Hid CN;rw[List.drop_zero,Nat.zero_add]⟩
 case round=>
  obtain⟨k,m,J,rfl,rfl,D,v,d,b⟩:=hrel;have j:=d.size;by_cases i:k<ps.length
  ·obtain⟨g,off,rfl⟩:=o.o.pos aD;have C:=o.o.lt;have f:ps[k]∈ps:=bG i;obtain⟨G,c1,E,H⟩:=Seen.parts (o.o.below d) k ps[k] (by simp[i]);have A:=z.o _ f;have e:ps.drop k=ps[k]::ps.drop (k+1):=List.drop_eq_getElem_cons i;rw[e,H6] at b;clear f e;generalize ps[k]=p at*;have F:g<wr.heap.size:=aD;have t: (k:Int)<ps.length:=aD;by_cases l:m+(p.args -1)=0
   ·rw[bD l] at b;have q: (m+(p.args -1)==0)=true:=by rw[l];rfl
    go_wp2_with fail;go_ret;exact⟨CL (by rw[b.o];rfl),d.alloc j _⟩
   ·rw[bC l] at b;have q: (m+(p.args -1)==0)=false:=aY.2 l;go_wp2_with fail;go_roundw
    case rel=>exact⟨k+1,m+(p.args -1),aD,by go_num,rfl,aD,aD,d.alloc j _,by unfold Hid;rw[b.o];omega⟩
    case measure=>simp[intOf];omega
  ·obtain rfl:k=ps.length:=aD;go_wp2_with fail;go_ret;exact⟨CL (by rw[b.o,List.drop_length,H6];rfl),d⟩
theorem KI(v:Int)(w:World)(a:Option Addr)(n c:Nat)(ps:List AB)(h:Seen w 129 AH (.slice a n c) ps)(F:ps.length<=100000):Calls prog 200 #[.slice a n c,.int .i64 v] w fun r w'=>r= .returned (.int .i64 (A0 v ps))/\Below w.heap.size w w':=by
 have y:n=ps.length:=h.len;subst y;have o:=aO h;clear h;go_enter func200,ntmps200;go_wp2_with fail;go_loopw [5,10] (fun u s wr=>∃(k m:Nat),k<=ps.length/\s= .int .i64 k/\u= .int .i64 m/\m<=k/\Below w.heap.size w wr/\Hid (A0 v ps=m+A0 v (ps.drop k))) (fun _ s _=>ps.length -(intOf s).toNat)
 case atStart=>exact⟨0,0,aD,rfl,rfl,aD,bZ _ _,by unfold Hid;rw[List.drop_zero,Nat.zero_add]⟩
 case round=>
  obtain⟨k,m,G,rfl,rfl,A,d,b⟩:=hrel;have l:=d.size;by_cases j:k<ps.length
  ·obtain⟨g,off,rfl⟩:=o.o.pos aD;have z:=o.o.lt;obtain⟨D,c1,B,E⟩:=Seen.parts (o.o.below d) k ps[k] (by simp[j]);have e:ps.drop k=ps[k]::ps.drop (k+1):=List.drop_eq_getElem_cons j;rw[e,A0] at b;clear e;generalize ps[k]=p at*;have C:g<wr.heap.size:=aD;have t: (k:Int)<ps.length:=aD
   cases i:isV v p
   ·rw[i,bC aE] at b;have q:=aO i;clear i;go_wp2_with (go_at_call 209;refine(U8 p v _).mono ?_;rintro r x ⟨rfl,f⟩;rw[q.o]);go_roundw
    case rel=>exact⟨k+1,m,aD,by go_num,rfl,aD,(d.alloc l _).trans (f.mono aJ),by unfold Hid;rw[b.o];omega⟩
    case measure=>simp[intOf];omega
   ·rw[i,bD rfl] at b;have q:=aO i;clear i;go_wp2_with (go_at_call 209;refine(U8 p v _).mono ?_;rintro r x ⟨rfl,f⟩;rw[q.o]);go_roundw
    case rel=>exact⟨k+1,m+1,aD,by go_num,by go_num,aD,(d.alloc l _).trans (f.mono aJ),by unfold Hid;rw[b.o];omega⟩
    case measure=>simp[intOf];omega
  ·obtain rfl:k=ps.length:=aD;go_wp2_with fail;go_ret;exact⟨CL (by rw[b.o,List.drop_length,A0];simp),d⟩
theorem FD(w:World)(N:Nat)(b:N=w.heap.size)(x y z u:Value)(t:TypeId):∀j v,[x,y,z,u][j]?=some v->(w.alloc (.cells #[x,y,z,u] t)).cell? ((⟨N,0,none⟩:Addr).add j)=some v:=by
 subst b;intro j v a
 match j,a with
 |0,a=>simp at a;subst a;simp[Addr.add]
 |1,a=>simp at a;subst a;simp[Addr.add]
 |2,a=>simp at a;subst a;simp[Addr.add]
 |3,a=>simp at a;subst a;simp[Addr.add]
 |(j+4),a=>simp at a
theorem JL{v:Int}{x:List AB}(a:1<=x.length):∀(t:List AB),(AP v x t).length<=t.length*x.length
 |[]=>by simp[AP]
 |p::t=>by
  have b:=JL (v:=v) a t;rw[AP,bL,bM,Nat.add_mul,Nat.one_mul];split
  ·omega
  ·simp only[bM,dA];omega
theorem xU{v:Int}{x t:List AB}{k:Nat}(h:k<t.length):AP v x (t.take (k+1))=AP v x (t.take k)++(if isV v t[k]=true then x else [t[k]]):=by
 rw[bJ h,WL,AP,AP,List.append_nil]
theorem jG{v:Int}{x t:List AB}{k:Nat}(b:1<=x.length)(a:x.length<=100000)(h:t.length<=100000): (AP v x (t.take k)).length<=10000000000:=by
 refine bN (JL b _) ?_;have: (t.take k).length<=100000:=by rw[bW];omega
 exact bN (Nat.mul_le_mul this a) aF
theorem WT(v:Int)(w:World)(a:Option Addr)(n c:Nat)(ps:List AB)(h:Seen w 129 AH (.slice a n c) ps)(O:ps.length<=100000)(V:Option Addr)(Q J:Nat)(o:List AB)(M:Seen w 129 AH (.slice V Q J) o)(H:o.length<=100000)(u:1<=o.length):Calls prog 202 #[.slice a n c,.int .i64 v,.slice V Q J] w fun r w'=>∃(S:Option Addr) (Z Y:Nat),r= .returned (.slice S Z Y)/\Seen w' 129 AH (.slice S Z Y) (AP v o ps)/\Below w.heap.size w w':=by
 have hn:n=ps.length:=h.len;subst hn;have K:Q=o.length:=M.len;subst K;have y:=aO h;have U:=aO M;clear h M;by_cases E:A0 v ps=0
 ·have Hp:Hid (AP v o ps=ps):=eH E;have I: ((A0 v ps:Int)==0)=true:=by rw[E];rfl
  clear E;go_enter func202,ntmps202;go_wp2_with (go_at_call 200;refine(KI v _ a _ c ps y.o O).mono ?_;rintro r w1 ⟨rfl,s⟩);go_ret;exact⟨a,_,c,rfl,by rw[Hp.o];exact y.o.below s,s⟩
 ·have I: ((A0 v ps:Int)==0)=false:=aY.2 aD;clear E;go_enter func202,ntmps202;go_wp2_with (go_at_call 200;refine(KI v _ a _ c ps y.o O).mono ?_;rintro r w1 ⟨rfl,s⟩);go_loopw [7,17] (fun pv P wr=>∃(k:Nat),k<=ps.length/\P= .int .i64 k/\aj wr w.heap.size 129 4 AH pv (AP v o (ps.take k))/\Below w.heap.size w wr) (fun _ P _=>ps.length -(intOf P).toNat)
  case atStart=>exact⟨0,aD,rfl,by rw[List.take_zero,AP];exact aj.nil _ _ _ _ _,s⟩
  case round=>
   obtain⟨k,hk,rfl,d,m⟩:=hrel;have D:=m.size;obtain⟨a4,c4,R⟩:=CJ d;subst R;have W:=jG (v:=v) (t:=ps) (k:=k) u H O;by_cases A:k<ps.length
   ·obtain⟨g,off,rfl⟩:=y.o.pos aD;have a0:=y.o.lt;obtain⟨g2,C,rfl⟩:=U.o.pos u;obtain⟨e0,e1,e2,e3⟩:=Seen.parts (y.o.below m) k ps[k] (by simp[A]);have q:=aO (xU (v:=v) (x:=o) A);generalize ps[k]=p at*;have Ci:g<wr.heap.size:=aD;have X: (k:Int)<ps.length:=aD;generalize AP v o (ps.take k)=acc at*
    cases z:isV v p
    ·rw[z,bC aE] at q;have N:=aO z;clear z
     go_wp2_with (first
      |(go_at_call 209;refine(U8 p v _).mono ?_;rintro r F ⟨rfl,f⟩;rw[N.o];have G:=f.size;have b:Below w.heap.size w F:=(m.alloc D _).trans (f.mono aJ);have Oa:=b.size;have l:=(d.alloc (.cells #[.int .i64 p.kind,.string p.name,.int .i64 p.value,.int .i64 p.args] 129)).below f;have B:=(f.block wr.heap.size aE).trans (AJ _ _);have⟨x0,x1,x2⟩:=cJ B;simp at x0 x1 x2;have x3:F.cell? ⟨wr.heap.size,3,none⟩=some (.int .i64 p.args):=AA B 3)
      |(at_builtin;refine AY Tryz.lg AH BC DX _ rfl (.tmp 27) (.tmp 29) rfl w.heap.size _ acc rfl (l.alloc _) ⟨_,0,none⟩ 1 p rfl (FD _ _ rfl _ _ _ _ _) aD (by rw[cE];omega) ?_;intro gA gu w3 i L jh))
     go_roundw
     case rel=>exact⟨k+1,aD,by go_num,by rw[q.o];exact i,(b.alloc b.size _).grown L (by rw[cE];have:=b.size;omega) (fun j e=>(d.lt j e).1)⟩
     case measure=>simp[intOf];omega
    ·rw[z,bD rfl] at q;have N:=aO z;clear z
     go_wp2_with (first
      |(go_at_call 209;refine(U8 p v _).mono ?_;rintro r F ⟨rfl,f⟩;rw[N.o];have G:=f.size;have b:Below w.heap.size w F:=(m.alloc D _).trans (f.mono aJ);have Oa:=b.size;have l:=(d.alloc (.cells #[.int .i64 p.kind,.string p.name,.int .i64 p.value,.int .i64 p.args] 129)).below f)
      |(at_builtin;refine QF Tryz.lg AH BC DX _ rfl (.tmp 24) (.tmp 25) rfl w.heap.size _ acc rfl l ⟨g2,C,none⟩ J o u rfl (U.o.below b).Ew aD b.size ?_;intro gA gu w3 i L jh))
     go_roundw
     case rel=>exact⟨k+1,aD,by go_num,by rw[q.o];exact i,b.grown L b.size (fun j e=>(d.lt j e).1)⟩
     case measure=>simp[intOf];omega
   ·obtain rfl:k=ps.length:=aD;go_wp2_with fail;go_ret;exact⟨_,_,_,rfl,by have T:=d.seen;simp only[List.take_length] at T⊢;exact T,m⟩
end Go.Proofs.Q
