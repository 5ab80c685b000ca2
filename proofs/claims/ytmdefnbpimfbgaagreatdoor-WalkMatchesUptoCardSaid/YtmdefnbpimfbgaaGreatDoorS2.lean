/-
  Lemmas on automata, dictionaries and the walk over them, the program's calls and the given ones.
-/
import Derived.Shelf.Strings.OnBuilder
import Derived.Shelf.Small.Bits
import Derived.Shelf.Small.Strs
import Derived.Shelf.Small.Wraps
import Derived.Shelf.Utf8.AppendRune
import Derived.Shelf.Utf8.AppendRunePlain
import Derived.Shelf.Utf8.RuneCount
import Derived.Shelf.Sort.Plain
import Derived.Shelf.Strings.RuneCount
import Derived.Shelf.Slices.Turned
import Derived.Shelf.Slices.Clone
import Derived.Shelf.Slices.In.SortNone
import Derived.Test.YtmdefnbpimfbgaaGreatDoorS1
import Derived.Laws.DeepNot64
set_option maxRecDepth 100000
set_option maxHeartbeats 16000000
namespace Go.Proofs
open Go.Shelf
def Tryz.lays156_ren:Go.Shelf.Ren:=⟨fun | 156=>41 | 165=>65 | 166=>66 | 169=>67 | 240=>88 | 241=>89 | 276=>110 | 277=>111 | n=>n,fun | 31=>73 | 9=>9 | 3=>3 | 4=>4 | 0=>0 | 20=>20 | 72=>122 | 76=>126 | 70=>120 | 37=>102 | 75=>125 | 127=>167 | 164=>190 | 5=>5 | 80=>128 | n=>n,fun | n=>n⟩
theorem Tryz.lays156:Go.Proofs.Lays.n156 Tryz.prog Tryz.lays156_ren:={
 mixed:=by kernel_rfl
 f156:=Tryz.func41.trans (congrArg some (by kernel_rfl))
 f165:=Tryz.func65.trans (congrArg some (by kernel_rfl))
 f166:=Tryz.func66.trans (congrArg some (by kernel_rfl))
 f169:=Tryz.func67.trans (congrArg some (by kernel_rfl))
 f240:=Tryz.func88.trans (congrArg some (by kernel_rfl))
 f241:=Tryz.func89.trans (congrArg some (by kernel_rfl))
 f276:=Tryz.func110.trans (congrArg some (by kernel_rfl))
 f277:=Tryz.func111.trans (congrArg some (by kernel_rfl))
 t0:=Tryz.underlying0
 a0:=Tryz.isAgg0
 z0:=Tryz.sizeOf0
 v0:=Tryz.zeroValue0
 t3:=Tryz.underlying3
 a3:=Tryz.isAgg3
 z3:=Tryz.sizeOf3
 v3:=Tryz.zeroValue3
 t4:=Tryz.underlying4
 a4:=Tryz.isAgg4
 z4:=Tryz.sizeOf4
 v4:=Tryz.zeroValue4
 t9:=Tryz.underlying9
 a9:=Tryz.isAgg9
 z9:=Tryz.sizeOf9
 v9:=Tryz.zeroValue9
 t20:=Tryz.underlying20
 a20:=Tryz.isAgg20
 z20:=Tryz.sizeOf20
 v20:=Tryz.zeroValue20
 t31:=Tryz.underlying73
 a31:=Tryz.isAgg73
 z31:=Tryz.sizeOf73
 v31:=Tryz.zeroValue73
 t37:=Tryz.underlying102
 a37:=Tryz.isAgg102
 z37:=Tryz.sizeOf102
 v37:=Tryz.zeroValue102
 t70:=Tryz.underlying120
 a70:=Tryz.isAgg120
 z70:=Tryz.sizeOf120
 v70:=Tryz.zeroValue120
 t72:=Tryz.underlying122
 a72:=Tryz.isAgg122
 z72:=Tryz.sizeOf122
 v72:=Tryz.zeroValue122
 t75:=Tryz.underlying125
 a75:=Tryz.isAgg125
 z75:=Tryz.sizeOf125
 v75:=Tryz.zeroValue125
 t76:=Tryz.underlying126
 a76:=Tryz.isAgg126
 z76:=Tryz.sizeOf126
 v76:=Tryz.zeroValue126
 t127:=Tryz.underlying167
 a127:=Tryz.isAgg167
 z127:=Tryz.sizeOf167
 v127:=Tryz.zeroValue167
 t164:=Tryz.underlying190
 a164:=Tryz.isAgg190
 z164:=Tryz.sizeOf190
 v164:=Tryz.zeroValue190}
theorem Tryz.Builder_Extra_156:Builder.Extra Tryz.prog Tryz.lays156_ren:={
 sizeBuilder:=by kernel_rfl
 liesBuilder:=by kernel_rfl
 t5:=Tryz.underlying5
 a5:=Tryz.isAgg5
 z5:=Tryz.sizeOf5
 v5:=Tryz.zeroValue5
 infoByte:=by kernel_rfl
 cellsByte:=by kernel_rfl
 sizeByte:=by kernel_rfl
 neB5:=by decide}
open Go.RowKit in
theorem Tryz.strings_Join_none (a:Option Addr) (c:Nat) (sep:ByteArray) (w:World):
  Calls Tryz.prog 41 #[.slice a 0 c,.string sep] w fun e w'=>e=.returned (.string ⟨#[]⟩)∧w'=w:=Any.strings_Join_none Tryz.lays156 Tryz.Builder_Extra_156 a c sep w
open Go.RowKit in
theorem Tryz.strings_Join (bk o c:Nat) (xs:List ByteArray) (sep:ByteArray) (w:World) (hcells:∀(j:Nat) x,xs[j]?=some x→w.cell? ⟨bk,o+j,none⟩=some (.string x)) (hbk:bk<w.heap.size) (hN:xs.length≤140737488355328) (hcap:xs.length≤c) (hlen:(Lib.join (xs.map (·.data.toList)) sep.data.toList).length≤140737488355328):
  Calls Tryz.prog 41 #[.slice (some ⟨bk,o,none⟩) xs.length c,.string sep] w fun e w'=>e=.returned (.string ⟨(Lib.join (xs.map (·.data.toList)) sep.data.toList).toArray⟩)∧Below w.heap.size w w':=Any.strings_Join Tryz.lays156 Tryz.Builder_Extra_156 bk o c xs sep w hcells hbk hN hcap hlen
def Tryz.lays137_ren:Go.Shelf.Ren:=⟨fun | 137=>97 | 217=>115 | 266=>129 | n=>n,fun | 9=>9 | 5=>5 | 3=>3 | n=>n,fun | n=>n⟩
theorem Tryz.lays137:Go.Proofs.Lays.n137 Tryz.prog Tryz.lays137_ren:={
 mixed:=by kernel_rfl
 f137:=Tryz.func97.trans (congrArg some (by kernel_rfl))
 f217:=Tryz.func115.trans (congrArg some (by kernel_rfl))
 f266:=Tryz.func129.trans (congrArg some (by kernel_rfl))
 t3:=Tryz.underlying3
 a3:=Tryz.isAgg3
 z3:=Tryz.sizeOf3
 v3:=Tryz.zeroValue3
 t5:=Tryz.underlying5
 a5:=Tryz.isAgg5
 z5:=Tryz.sizeOf5
 v5:=Tryz.zeroValue5
 t9:=Tryz.underlying9
 a9:=Tryz.isAgg9
 z9:=Tryz.sizeOf9
 v9:=Tryz.zeroValue9}
open Go.RowKit in
theorem Tryz.strings_IndexByte (s:ByteArray) (c:Int) (w:World):
  Calls Tryz.prog 97 #[.string s,.int .u8 c] w fun e w'=>e=.returned (.int .i64 (Lib.indexByte s.data.toList c.toNat.toUInt8))∧w'=w:=Any.strings_IndexByte Tryz.lays137 s c w
def Tryz.lays242_ren:Go.Shelf.Ren:=⟨fun | 242=>136 | 278=>147 | n=>n,fun | 37=>102 | 21=>21 | 51=>231 | 4=>4 | 5=>5 | 46=>206 | n=>n,fun | n=>n⟩
theorem Tryz.lays242:Go.Proofs.Lays.n242 Tryz.prog Tryz.lays242_ren:={
 mixed:=by kernel_rfl
 f242:=Tryz.func136.trans (congrArg some (by kernel_rfl))
 f278:=Tryz.func147.trans (congrArg some (by kernel_rfl))
 t4:=Tryz.underlying4
 a4:=Tryz.isAgg4
 z4:=Tryz.sizeOf4
 v4:=Tryz.zeroValue4
 t5:=Tryz.underlying5
 a5:=Tryz.isAgg5
 z5:=Tryz.sizeOf5
 v5:=Tryz.zeroValue5
 t21:=Tryz.underlying21
 a21:=Tryz.isAgg21
 z21:=Tryz.sizeOf21
 v21:=Tryz.zeroValue21
 t37:=Tryz.underlying102
 a37:=Tryz.isAgg102
 z37:=Tryz.sizeOf102
 v37:=Tryz.zeroValue102
 t46:=Tryz.underlying206
 a46:=Tryz.isAgg206
 z46:=Tryz.sizeOf206
 v46:=Tryz.zeroValue206
 t51:=Tryz.underlying231
 a51:=Tryz.isAgg231
 z51:=Tryz.sizeOf231
 v51:=Tryz.zeroValue231}
open Go.RowKit in
theorem Tryz.utf8_AppendRune_plain (B:Nat) (v:Value) (n:Nat) (xs:List Value) (r:Int) (hr0:-2147483648≤r) (hr1:r≤2147483647) (w:World) (hown:w.ownsRow B 5 1 v n xs) (hlen:n+4≤140737488355328) (hBw:B≤w.heap.size):
  Calls Tryz.prog 136 #[v,.int .i32 r] w fun e w'=>∃v',e=.returned v'∧w'.ownsRow B 5 1 v' (n+(Lib.runeCells r).length) (xs++Lib.runeCells r)∧∃o,(w.alloc o).grownBy w' v.ownBlock:=Any.utf8_AppendRune_plain Tryz.lays242 (by kernel_rfl) B v n xs r hr0 hr1 w hown hlen hBw
def Tryz.lays195_ren:Go.Shelf.Ren:=⟨fun | 195=>113 | n=>n,fun | 9=>9 | 3=>3 | 0=>0 | 4=>4 | n=>n,fun | n=>n⟩
theorem Tryz.lays195:Go.Proofs.Lays.n195 Tryz.prog Tryz.lays195_ren:={
 mixed:=by kernel_rfl
 f195:=Tryz.func113.trans (congrArg some (by kernel_rfl))
 t0:=Tryz.underlying0
 a0:=Tryz.isAgg0
 z0:=Tryz.sizeOf0
 v0:=Tryz.zeroValue0
 t3:=Tryz.underlying3
 a3:=Tryz.isAgg3
 z3:=Tryz.sizeOf3
 v3:=Tryz.zeroValue3
 t4:=Tryz.underlying4
 a4:=Tryz.isAgg4
 z4:=Tryz.sizeOf4
 v4:=Tryz.zeroValue4
 t9:=Tryz.underlying9
 a9:=Tryz.isAgg9
 z9:=Tryz.sizeOf9
 v9:=Tryz.zeroValue9}
open Go.RowKit in
theorem Tryz.utf8_RuneCountInString (s:ByteArray) (w:World) (hs:s.size<9223372036854775807):
  Calls Tryz.prog 113 #[.string s] w fun e w'=>e=.returned (.int .i64 (Lib.runeCount s))∧∃pos,w'=w.iter s pos:=Any.utf8_RuneCountInString Tryz.lays195 s w hs
def Tryz.lays129_ren:Go.Shelf.Ren:=⟨fun | 129=>106 | n=>n,fun | 53=>156 | 3=>3 | 4=>4 | 46=>206 | 5=>5 | 9=>9 | n=>n,fun | n=>n⟩
theorem Tryz.lays129:Go.Proofs.Lays.n129 Tryz.prog Tryz.lays129_ren:={
 mixed:=by kernel_rfl
 f129:=Tryz.func106.trans (congrArg some (by kernel_rfl))
 t3:=Tryz.underlying3
 a3:=Tryz.isAgg3
 z3:=Tryz.sizeOf3
 v3:=Tryz.zeroValue3
 t4:=Tryz.underlying4
 a4:=Tryz.isAgg4
 z4:=Tryz.sizeOf4
 v4:=Tryz.zeroValue4
 t5:=Tryz.underlying5
 a5:=Tryz.isAgg5
 z5:=Tryz.sizeOf5
 v5:=Tryz.zeroValue5
 t9:=Tryz.underlying9
 a9:=Tryz.isAgg9
 z9:=Tryz.sizeOf9
 v9:=Tryz.zeroValue9
 t46:=Tryz.underlying206
 a46:=Tryz.isAgg206
 z46:=Tryz.sizeOf206
 v46:=Tryz.zeroValue206
 t53:=Tryz.underlying156
 a53:=Tryz.isAgg156
 z53:=Tryz.sizeOf156
 v53:=Tryz.zeroValue156}
theorem Tryz.bits_Len64 (x:Int) (w:World) (h0:0≤x) (h1:x≤18446744073709551615):
  Calls Tryz.prog 106 #[.int .u64 x] w fun e w'=>e=.returned (.int .i64 (Lib.bitLen x.toNat))∧w'=w:=Any.bits_Len64 Tryz.lays129 x w h0 h1
def Tryz.lays189_ren:Go.Shelf.Ren:=⟨fun | 189=>121 | 125=>133 | 257=>132 | 128=>146 | 129=>106 | 294=>137 | 295=>138 | 296=>139 | 297=>140 | 298=>141 | 299=>142 | 216=>143 | 300=>144 | 301=>145 | 328=>148 | 329=>149 | 330=>150 | 331=>151 | 332=>152 | 215=>153 | 343=>154 | n=>n,fun | 28=>82 | 3=>3 | 46=>206 | 0=>0 | 51=>231 | 53=>156 | 4=>4 | 183=>225 | 182=>224 | 131=>100 | 5=>5 | 9=>9 | 218=>232 | 222=>194 | 228=>237 | 229=>88 | n=>n,fun | n=>n⟩
theorem Tryz.lays189:Go.Proofs.Lays.n189 Tryz.prog Tryz.lays189_ren:={
 mixed:=by kernel_rfl
 f125:=Tryz.func133.trans (congrArg some (by kernel_rfl))
 f128:=Tryz.func146.trans (congrArg some (by kernel_rfl))
 f129:=Tryz.func106.trans (congrArg some (by kernel_rfl))
 f189:=Tryz.func121.trans (congrArg some (by kernel_rfl))
 f215:=Tryz.func153.trans (congrArg some (by kernel_rfl))
 f216:=Tryz.func143.trans (congrArg some (by kernel_rfl))
 f257:=Tryz.func132.trans (congrArg some (by kernel_rfl))
 f294:=Tryz.func137.trans (congrArg some (by kernel_rfl))
 f295:=Tryz.func138.trans (congrArg some (by kernel_rfl))
 f296:=Tryz.func139.trans (congrArg some (by kernel_rfl))
 f297:=Tryz.func140.trans (congrArg some (by kernel_rfl))
 f298:=Tryz.func141.trans (congrArg some (by kernel_rfl))
 f299:=Tryz.func142.trans (congrArg some (by kernel_rfl))
 f300:=Tryz.func144.trans (congrArg some (by kernel_rfl))
 f301:=Tryz.func145.trans (congrArg some (by kernel_rfl))
 f328:=Tryz.func148.trans (congrArg some (by kernel_rfl))
 f329:=Tryz.func149.trans (congrArg some (by kernel_rfl))
 f330:=Tryz.func150.trans (congrArg some (by kernel_rfl))
 f331:=Tryz.func151.trans (congrArg some (by kernel_rfl))
 f332:=Tryz.func152.trans (congrArg some (by kernel_rfl))
 f343:=Tryz.func154.trans (congrArg some (by kernel_rfl))
 t0:=Tryz.underlying0
 a0:=Tryz.isAgg0
 z0:=Tryz.sizeOf0
 v0:=Tryz.zeroValue0
 t3:=Tryz.underlying3
 a3:=Tryz.isAgg3
 z3:=Tryz.sizeOf3
 v3:=Tryz.zeroValue3
 t4:=Tryz.underlying4
 a4:=Tryz.isAgg4
 z4:=Tryz.sizeOf4
 v4:=Tryz.zeroValue4
 t5:=Tryz.underlying5
 a5:=Tryz.isAgg5
 z5:=Tryz.sizeOf5
 v5:=Tryz.zeroValue5
 t9:=Tryz.underlying9
 a9:=Tryz.isAgg9
 z9:=Tryz.sizeOf9
 v9:=Tryz.zeroValue9
 t28:=Tryz.underlying82
 a28:=Tryz.isAgg82
 z28:=Tryz.sizeOf82
 v28:=Tryz.zeroValue82
 t46:=Tryz.underlying206
 a46:=Tryz.isAgg206
 z46:=Tryz.sizeOf206
 v46:=Tryz.zeroValue206
 t51:=Tryz.underlying231
 a51:=Tryz.isAgg231
 z51:=Tryz.sizeOf231
 v51:=Tryz.zeroValue231
 t53:=Tryz.underlying156
 a53:=Tryz.isAgg156
 z53:=Tryz.sizeOf156
 v53:=Tryz.zeroValue156
 t131:=Tryz.underlying100
 a131:=Tryz.isAgg100
 z131:=Tryz.sizeOf100
 v131:=Tryz.zeroValue100
 t182:=Tryz.underlying224
 a182:=Tryz.isAgg224
 z182:=Tryz.sizeOf224
 v182:=Tryz.zeroValue224
 t183:=Tryz.underlying225
 a183:=Tryz.isAgg225
 z183:=Tryz.sizeOf225
 v183:=Tryz.zeroValue225
 t218:=Tryz.underlying232
 a218:=Tryz.isAgg232
 z218:=Tryz.sizeOf232
 v218:=Tryz.zeroValue232
 t222:=Tryz.underlying194
 a222:=Tryz.isAgg194
 z222:=Tryz.sizeOf194
 v222:=Tryz.zeroValue194
 t228:=Tryz.underlying237
 a228:=Tryz.isAgg237
 z228:=Tryz.sizeOf237
 v228:=Tryz.zeroValue237
 t229:=Tryz.underlying88
 a229:=Tryz.isAgg88
 z229:=Tryz.sizeOf88
 v229:=Tryz.zeroValue88}
open Go.Sort Go.RowKit in
theorem Tryz.slices_Sort_int (blk off cap:Nat) (zs:List Int) (w:World) (hH:Holds (Value.int .i64) w blk off zs.toArray) (hblk:blk<w.heap.size) (hsz:zs.length<4611686018427387904):
  Calls Tryz.prog 121 #[.slice (some ⟨blk,off,none⟩) zs.length cap] w fun e w'=>
   e=.returned (.tuple #[])∧∃n os,w'=grow (putRow (Value.int .i64) (Sort.ahead w n) blk off (zs.mergeSort fun x y=>decide (x≤y)).toArray) os:=Any.slices_Sort_int Tryz.lays189 blk off cap zs w hH hblk hsz
def Tryz.lays108_ren:Go.Shelf.Ren:=⟨fun | 108=>75 | n=>n,fun | 28=>82 | 3=>3 | 0=>0 | 4=>4 | n=>n,fun | n=>n⟩
theorem Tryz.lays108:Go.Proofs.Lays.n108 Tryz.prog Tryz.lays108_ren:={
 mixed:=by kernel_rfl
 f108:=Tryz.func75.trans (congrArg some (by kernel_rfl))
 t0:=Tryz.underlying0
 a0:=Tryz.isAgg0
 z0:=Tryz.sizeOf0
 v0:=Tryz.zeroValue0
 t3:=Tryz.underlying3
 a3:=Tryz.isAgg3
 z3:=Tryz.sizeOf3
 v3:=Tryz.zeroValue3
 t4:=Tryz.underlying4
 a4:=Tryz.isAgg4
 z4:=Tryz.sizeOf4
 v4:=Tryz.zeroValue4
 t28:=Tryz.underlying82
 a28:=Tryz.isAgg82
 z28:=Tryz.sizeOf82
 v28:=Tryz.zeroValue82}
open Go.Lib in
theorem Tryz.slices_Index_int (b off n c:Nat) (zs:List Int) (x:Int) (w:World) (hz:n≤zs.length) (hbig:n≤9223372036854775807) (hc:∀j,j<zs.length→w.cell? ⟨b,off+j,none⟩=some (.int .i64 (zs.getD j 0))):
  Calls Tryz.prog 75 #[.slice (some ⟨b,off,none⟩) n c,.int .i64 x] w fun e w'=>e=.returned (.int .i64 (Lib.idxOf (zs.take n) x))∧w'=w:=Any.slices_Index_int Tryz.lays108 b off n c zs x w hz hbig hc
open Go.Lib in
theorem Tryz.slices_Index_int_empty (a:Option Addr) (c:Nat) (x:Int) (w:World):
  Calls Tryz.prog 75 #[.slice a 0 c,.int .i64 x] w fun e w'=>e=.returned (.int .i64 (Lib.idxOf [] x))∧w'=w:=Any.slices_Index_int_empty Tryz.lays108 a c x w
def Tryz.lays107_ren:Go.Shelf.Ren:=⟨fun | 107=>76 | 108=>75 | n=>n,fun | 28=>82 | 3=>3 | 4=>4 | 0=>0 | n=>n,fun | n=>n⟩
theorem Tryz.lays107:Go.Proofs.Lays.n107 Tryz.prog Tryz.lays107_ren:={
 mixed:=by kernel_rfl
 f107:=Tryz.func76.trans (congrArg some (by kernel_rfl))
 f108:=Tryz.func75.trans (congrArg some (by kernel_rfl))
 t0:=Tryz.underlying0
 a0:=Tryz.isAgg0
 z0:=Tryz.sizeOf0
 v0:=Tryz.zeroValue0
 t3:=Tryz.underlying3
 a3:=Tryz.isAgg3
 z3:=Tryz.sizeOf3
 v3:=Tryz.zeroValue3
 t4:=Tryz.underlying4
 a4:=Tryz.isAgg4
 z4:=Tryz.sizeOf4
 v4:=Tryz.zeroValue4
 t28:=Tryz.underlying82
 a28:=Tryz.isAgg82
 z28:=Tryz.sizeOf82
 v28:=Tryz.zeroValue82}
open Go.Lib in
theorem Tryz.slices_Contains_int (b off n c:Nat) (zs:List Int) (x:Int) (w:World) (hz:n≤zs.length) (hbig:n≤9223372036854775807) (hc:∀j,j<zs.length→w.cell? ⟨b,off+j,none⟩=some (.int .i64 (zs.getD j 0))):
  Calls Tryz.prog 76 #[.slice (some ⟨b,off,none⟩) n c,.int .i64 x] w fun e w'=>e=.returned (.bool ((zs.take n).contains x))∧w'=w:=Any.slices_Contains_int Tryz.lays107 b off n c zs x w hz hbig hc
open Go.Lib in
theorem Tryz.slices_Contains_int_empty (a:Option Addr) (c:Nat) (x:Int) (w:World):
  Calls Tryz.prog 76 #[.slice a 0 c,.int .i64 x] w fun e w'=>e=.returned (.bool false)∧w'=w:=Any.slices_Contains_int_empty Tryz.lays107 a c x w
def Tryz.laysNm215_ren:Go.Shelf.Ren:=⟨fun | 15=>117 | n=>n,fun | 22=>82 | 3=>3 | 4=>4 | n=>n,fun | n=>n⟩
theorem Tryz.laysNm215:Go.Proofs.Lays2.n15 Tryz.prog Tryz.laysNm215_ren:={
 mixed:=by kernel_rfl
 f15:=Tryz.func117.trans (congrArg some (by kernel_rfl))
 t3:=Tryz.underlying3
 a3:=Tryz.isAgg3
 z3:=Tryz.sizeOf3
 v3:=Tryz.zeroValue3
 t4:=Tryz.underlying4
 a4:=Tryz.isAgg4
 z4:=Tryz.sizeOf4
 v4:=Tryz.zeroValue4
 t22:=Tryz.underlying82
 a22:=Tryz.isAgg82
 z22:=Tryz.sizeOf82
 v22:=Tryz.zeroValue82
 i3:=by kernel_rfl}
open Go.RowKit Go.Lib in
theorem Tryz.slices_Clone_int (b off n c:Nat) (zs:List Int) (w:World) (hz:n≤zs.length) (hbig:n*8≤140737488355328) (hc:∀j,j<zs.length→w.cell? ⟨b,off+j,none⟩=some (.int .i64 (zs.getD j 0))):
  Calls Tryz.prog 117 #[.slice (some ⟨b,off,none⟩) n c] w fun e w'=>∃v',e=.returned v'∧w'.ownsRow w.heap.size 3 1 v' n ((zs.take n).map (Value.int .i64))∧v'≠.slice none 0 0∧Below w.heap.size w w':=Any.slices_Clone_int Tryz.laysNm215 b off n c zs w hz hbig hc
open Go.RowKit Go.Lib in
theorem Tryz.slices_Clone_int_nil (n c:Nat) (w:World):
  Calls Tryz.prog 117 #[.slice none n c] w fun e w'=>e=.returned (.slice none 0 0)∧w'=w:=Any.slices_Clone_int_nil Tryz.laysNm215 n c w
open Go.RowKit Go.Lib in
theorem Tryz.slices_Clone_int_zero (a:Addr) (c:Nat) (w:World):
  Calls Tryz.prog 117 #[.slice (some a) 0 c] w fun e w'=>∃v',e=.returned v'∧w'.ownsRow w.heap.size 3 1 v' 0 []∧v'≠.slice none 0 0∧Below w.heap.size w w':=Any.slices_Clone_int_zero Tryz.laysNm215 a c w
end Go.Proofs
namespace Go.Proofs.YtmdefnbpimfbgaaGreatDoor
section
open Go.RowKit
theorem ret_int {k:IntKind} {a b:Int} (h:a=b):Ending.returned (.int k a)=.returned (.int k b):=by rw [h]
theorem width_any (m:Nat) (w:World) (hm:m<18446744073709551616):
  Calls Tryz.prog 82 #[.int .u64 m] w fun e w'=>e=.returned (.int .i64 (Pl.wid m))∧w=w':=by
 have hb:=Pl.bitLen_le m
 have hw:=Pl.wid_bitLen m
 have HW:Hid (max 1 (((Lib.bitLen m:Int)+7)/8)=(Pl.wid m:Int)):=by
  show _=_
  rw [←hw]
  show _=((max 1 ((Lib.bitLen m+7)/8):Nat):Int)
  omega
 clear hw
 go_enter Tryz.func82,Tryz.ntmps82
 go_wp2_with (go_at_call 106;refine (Tryz.bits_Len64 _ _ (by omega) (by omega)).mono ?_;rintro e w' ⟨rfl,rfl⟩)
 go_ret
 exact ⟨ret_int HW.out,rfl⟩
theorem readWide_far (s:ByteArray) (f a:Nat) (w:World) (h0:0<s.size) (hx:bits .xor .u8 (s[0].toNat:Int) (f:Int)=(a:Int)) (ha:247<a) (ha2:a<256):
  Calls Tryz.prog 124 #[.string s,.int .u8 f] w fun e w'=>e=.returned (.tuple #[.int .i64 0,.int .i64 0,.int .i64 3])∧w=w':=by
 go_enter Tryz.func124,Tryz.ntmps124
 go_wp2_with fail
 go_ret3
 exact ⟨rfl,rfl⟩
theorem readWide_short (s:ByteArray) (f k:Nat) (w:World) (h0:0<s.size) (hsz:s.size≤9223372036854775807) (hx:bits .xor .u8 (s[0].toNat:Int) (f:Int)=(k:Int)+239) (hk8:k≤8) (hk:s.size≤k):
  Calls Tryz.prog 124 #[.string s,.int .u8 f] w fun e w'=>e=.returned (.tuple #[.int .i64 0,.int .i64 0,.int .i64 2])∧w=w':=by
 go_enter Tryz.func124,Tryz.ntmps124
 go_wp2_with fail
 go_ret3
 exact ⟨rfl,rfl⟩
theorem or_byte (m b:Nat) (hm:m<72057594037927936) (hb:b<256):
  bits .or .u64 (IntKind.u64.wrap ((m:Int)*256)) (IntKind.u64.wrap (b:Int))=((256*m+b:Nat):Int):=by
 rw [IntKind.wrap_u64,IntKind.wrap_u64,show (m:Int)*256%18446744073709551616=((256*m:Nat):Int) from by omega,show (b:Int)%18446744073709551616=(b:Int) from by omega,u64_or_nat _ _ (by omega) (by omega)]
 rw [nat_join 8 (256*m) b (by simp [Nat.mul_mod_right]) (by simpa using hb)]
theorem tail_take (s:ByteArray) (j:Nat) (h:j+1<s.size):s.data.toList.tail.take (j+1)=s.data.toList.tail.take j++[s[j+1]]:=by
 have hl:j<s.data.toList.tail.length:=by simp;omega
 rw [List.take_succ_eq_append_getElem hl]
 simp
 rfl
theorem val_bound (f:Nat) (hf:f<256) (l:List UInt8) (j n:Nat) (hn:j≤n):Pl.val f (l.take j) 0<256 ^ n:=by
 have h:=Pl.val_lt f hf (l.take j) 0 0 (by simp)
 have hl:(l.take j).length≤j:=List.length_take_le _ _
 exact Nat.lt_of_lt_of_le h (Nat.pow_le_pow_right (by omega) (by omega))
theorem readWide_loop (s:ByteArray) (f k:Nat) (w:World) (hf:f<256) (h0:0<s.size) (hsz:s.size≤9223372036854775807) (hx:bits .xor .u8 (s[0].toNat:Int) (f:Int)=(k:Int)+239) (hk1:1≤k) (hk8:k≤8) (hk:k<s.size)
  (n z e:Int) (hr:(if Pl.wid (Pl.val f (s.data.toList.tail.take k) 0)<k∨9223372036854775695<Pl.val f (s.data.toList.tail.take k) 0 then ((0,0,3):Int × Int × Int) else ((Pl.val f (s.data.toList.tail.take k) 0:Int)+112,1+(k:Int),0))=(n,z,e)):
  Calls Tryz.prog 124 #[.string s,.int .u8 f] w fun e' w'=>e'=.returned (.tuple #[.int .i64 n,.int .i64 z,.int .i64 e])∧w=w':=by
 have HR:=lh hr
 clear hr
 go_enter Tryz.func124,Tryz.ntmps124
 go_wp2_with fail
 go_loop [8,9] (fun m i=>∃j:Nat,j≤k∧i=.int .i64 ((j:Int)+1)∧m=.int .u64 (Pl.val f (s.data.toList.tail.take j) 0)) (fun _ i=>k+1-(intOf i).toNat)
 case atStart=>exact ⟨0,Nat.zero_le _,rfl,rfl⟩
 case round=>
  obtain ⟨j,hj,rfl,rfl⟩:=hrel
  by_cases hlt:j<k
  ·have hi:j+1<s.size:=by omega
   have hxor:=u8_xor_nat s[j+1].toNat f s[j+1].toNat_lt hf
   have hst:Hid (Pl.val f (s.data.toList.tail.take (j+1)) 0=256*Pl.val f (s.data.toList.tail.take j) 0+(s[j+1].toNat ^^^ f)):=by
    show _=_
    rw [tail_take s j hi,Pl.val_snoc]
   have hv:Hid (Pl.val f (s.data.toList.tail.take j) 0<72057594037927936):=val_bound f hf _ j 7 (by omega)
   have hb:Hid (s[j+1].toNat ^^^ f<256):=Pl.xor_lt _ _ hf
   go_wp2_with fail
   go_round
   case rel=>exact ⟨j+1,by omega,by go_num,by rw [hst.out,or_byte _ _ hv.out hb.out]⟩
   case measure=>simp [intOf];omega
  ·obtain rfl:j=k:=by omega
   have hb:Pl.val f (s.data.toList.tail.take j) 0<18446744073709551616:=val_bound f hf _ j 8 hk8
   have hwl:=Pl.wid_le (Pl.val f (s.data.toList.tail.take j) 0)
   have hr:=HR.out
   clear HR
   generalize Pl.val f (s.data.toList.tail.take j) 0=m at *
   generalize hv:Pl.wid m=v at *
   have HV:=lh hv
   clear hv
   by_cases h1:v<j
   ·rw [if_pos (Or.inl h1)] at hr
    obtain ⟨rfl,rfl,rfl⟩:0=n∧0=z∧3=e:=by simpa using hr
    clear hr
    go_wp2_with (refine (width_any m _ hb).mono ?_;rintro e w' ⟨rfl,rfl⟩;rw [HV.out])
    go_ret3
    exact ⟨rfl,rfl⟩
   ·by_cases h2:9223372036854775695<m
    ·rw [if_pos (Or.inr h2)] at hr
     obtain ⟨rfl,rfl,rfl⟩:0=n∧0=z∧3=e:=by simpa using hr
     clear hr
     go_wp2_with (refine (width_any m _ hb).mono ?_;rintro e w' ⟨rfl,rfl⟩;rw [HV.out])
     go_ret3
     exact ⟨rfl,rfl⟩
    ·rw [if_neg (by omega)] at hr
     obtain ⟨rfl,rfl,rfl⟩:(m:Int)+112=n∧1+(j:Int)=z∧0=e:=by simpa using hr
     clear hr
     go_wp2_with (refine (width_any m _ hb).mono ?_;rintro e w' ⟨rfl,rfl⟩;rw [HV.out])
     go_ret3
     exact ⟨rfl,rfl⟩
theorem readWide_any (s:ByteArray) (f:Nat) (w:World) (hf:f<256) (h0:0<s.size) (hsz:s.size≤9223372036854775807) (ha:240≤s[0].toNat ^^^ f) (n z e:Int) (hr:Pl.rdWide s[0] s.data.toList.tail f=(n,z,e)):
  Calls Tryz.prog 124 #[.string s,.int .u8 f] w fun e' w'=>e'=.returned (.tuple #[.int .i64 n,.int .i64 z,.int .i64 e])∧w=w':=by
 have hx:=u8_xor_nat s[0].toNat f s[0].toNat_lt hf
 have hlt:=Pl.xor_lt s[0] f hf
 have hlen:s.data.toList.tail.length=s.size-1:=by simp
 unfold Pl.rdWide at hr
 rw [hlen] at hr
 generalize s[0].toNat ^^^ f=a at *
 by_cases h1:247<a
 ·rw [if_pos h1] at hr
  obtain ⟨rfl,rfl,rfl⟩:0=n∧0=z∧3=e:=by simpa using hr
  exact readWide_far s f a w h0 hx h1 hlt
 ·rw [if_neg h1] at hr
  obtain ⟨k,rfl⟩:∃k,a=k+239:=⟨a-239,by omega⟩
  rw [Nat.add_sub_cancel] at hr
  have hx':bits .xor .u8 (s[0].toNat:Int) (f:Int)=(k:Int)+239:=by rw [hx];omega
  by_cases h2:s.size-1<k
  ·rw [if_pos h2] at hr
   obtain ⟨rfl,rfl,rfl⟩:0=n∧0=z∧2=e:=by simpa using hr
   exact readWide_short s f k w h0 hsz hx' (by omega) (by omega)
  ·rw [if_neg h2] at hr
   refine readWide_loop s f k w hf h0 hsz hx' (by omega) (by omega) (by omega) n z e ?_
   rw [←hr,show ((k+239:Nat):Int)-238=1+(k:Int) from by omega]
theorem rdNum_cons (s:ByteArray) (h0:0<s.size):Pl.rdNum s.data.toList=(if s[0].toNat ^^^ Pl.flipOf s[0]<240 then Pl.back (Pl.flipOf s[0]) (((s[0].toNat ^^^ Pl.flipOf s[0]:Nat):Int)-128,1,0)
  else Pl.back (Pl.flipOf s[0]) (Pl.rdWide s[0] s.data.toList.tail (Pl.flipOf s[0]))):=by
 have hl:0<s.data.toList.length:=by simpa using h0
 have h:s.data.toList=s[0] :: s.data.toList.tail:=by
  rw [←List.cons_head_tail (List.ne_nil_of_length_pos hl)]
  congr 1
  rw [List.head_eq_getElem]
  rfl
 conv=>lhs;rw [h]
 rfl
theorem empty_true (s:ByteArray) (h:s.size=0):s.toList.isEmpty=true:=by
 rw [ByteArray.toList_eq]
 have:s.data.toList.length=0:=by simpa using h
 simpa using List.length_eq_zero_iff.1 this
theorem empty_false (s:ByteArray) (h:0<s.size):s.toList.isEmpty=false:=by
 rw [ByteArray.toList_eq]
 have h2:0<s.data.toList.length:=by simpa using h
 cases hl:s.data.toList with
 | nil=>rw [hl] at h2;simp at h2
 | cons c t=>rfl
theorem rdWide_bd (c:UInt8) (t:List UInt8) (f:Nat) (n z e:Int) (h:Pl.rdWide c t f=(n,z,e)) (hc:c.toNat ^^^ f<256) (hc2:240≤c.toNat ^^^ f):
  (0≤n∧n≤9223372036854775807)∧(0≤z∧z≤t.length+1)∧(e=0∨e=2∨e=3)∧(e≠0→n=0∧z=0):=by
 unfold Pl.rdWide at h
 generalize Pl.wid (Pl.val f (List.take ((c.toNat ^^^ f)-239) t) 0)=v at *
 generalize Pl.val f (List.take ((c.toNat ^^^ f)-239) t) 0=m at *
 generalize c.toNat ^^^ f=a at *
 by_cases h1:247<a
 ·rw [if_pos h1] at h
  obtain ⟨rfl,rfl,rfl⟩:0=n∧0=z∧3=e:=by simpa using h
  omega
 ·rw [if_neg h1] at h
  by_cases h2:t.length<a-239
  ·rw [if_pos h2] at h
   obtain ⟨rfl,rfl,rfl⟩:0=n∧0=z∧2=e:=by simpa using h
   omega
  ·rw [if_neg h2] at h
   by_cases h3:v<a-239∨9223372036854775695<m
   ·rw [if_pos h3] at h
    obtain ⟨rfl,rfl,rfl⟩:0=n∧0=z∧3=e:=by simpa using h
    omega
   ·rw [if_neg h3] at h
    obtain ⟨rfl,rfl,rfl⟩:(m:Int)+112=n∧(a:Int)-238=z∧0=e:=by simpa using h
    omega
theorem readNum_empty (s:ByteArray) (w:World) (h:s.size=0):
  Calls Tryz.prog 107 #[.string s] w fun e' w'=>e'=.returned (.tuple #[.int .i64 0,.int .i64 0,.int .i64 2])∧w=w':=by
 have h1:=empty_true s h
 clear h
 go_enter Tryz.func107,Tryz.ntmps107
 go_wp2_with fail
 go_ret3
 exact ⟨rfl,rfl⟩
theorem readNum_near (s:ByteArray) (w:World) (h0:0<s.size) (hd:128≤s[0].toNat) (hd2:s[0].toNat<240):
  Calls Tryz.prog 107 #[.string s] w fun e' w'=>e'=.returned (.tuple #[.int .i64 ((s[0].toNat:Int)-128),.int .i64 1,.int .i64 0])∧w=w':=by
 have hx:bits .xor .u8 (s[0].toNat:Int) 0=(s[0].toNat:Int):=by
  have:=u8_xor_nat s[0].toNat 0 s[0].toNat_lt (by omega)
  simpa using this
 have h1:=empty_false s h0
 go_enter Tryz.func107,Tryz.ntmps107
 go_wp2_with fail
 go_ret3
 exact ⟨rfl,rfl⟩
theorem readNum_wide0 (s:ByteArray) (w:World) (h0:0<s.size) (hsz:s.size≤9223372036854775807) (hd:240≤s[0].toNat) (n z e:Int) (hr:Pl.rdWide s[0] s.data.toList.tail 0=(n,z,e)):
  Calls Tryz.prog 107 #[.string s] w fun e' w'=>e'=.returned (.tuple #[.int .i64 n,.int .i64 z,.int .i64 e])∧w=w':=by
 have hx0:s[0].toNat ^^^ 0=s[0].toNat:=Nat.xor_zero _
 have hc:=readWide_any s 0 w (by omega) h0 hsz (by rw [hx0];exact hd) n z e hr
 have hbd:=rdWide_bd _ _ _ _ _ _ hr (Pl.xor_lt _ _ (by omega)) (by rw [hx0];exact hd)
 have hx:bits .xor .u8 (s[0].toNat:Int) 0=(s[0].toNat:Int):=by
  have:=u8_xor_nat s[0].toNat 0 s[0].toNat_lt (by omega)
  simpa using this
 have h1:=empty_false s h0
 have HC:=lh hc
 clear hr hx0 hc
 obtain ⟨⟨b1,b2⟩,_,_,_⟩:=hbd
 have hu:s[0].toNat<256:=s[0].toNat_lt
 go_enter Tryz.func107,Tryz.ntmps107
 by_cases he:e=0
 ·subst he
  go_wp2_with (refine HC.out.mono ?_;rintro e w' ⟨rfl,rfl⟩)
  go_ret3
  exact ⟨rfl,rfl⟩
 ·have he':(e==0)=false:=by simpa using he
  clear he
  go_wp2_with (refine HC.out.mono ?_;rintro e w' ⟨rfl,rfl⟩)
  go_ret3
  exact ⟨rfl,rfl⟩
theorem readNum_nearM (s:ByteArray) (a:Nat) (w:World) (h0:0<s.size) (hx:bits .xor .u8 (s[0].toNat:Int) 255=(a:Int)) (hd:s[0].toNat<128) (ha:128≤a) (ha2:a<240):
  Calls Tryz.prog 107 #[.string s] w fun e' w'=>e'=.returned (.tuple #[.int .i64 (-((a:Int)-128)-1),.int .i64 1,.int .i64 0])∧w=w':=by
 have h1:=empty_false s h0
 have hn:bits .xor .i64 (-1) ((a:Int)-128) = -((a:Int)-128)-1:=by
  have:=i64_not (a-128) (by omega)
  rw [show ((a-128:Nat):Int)=(a:Int)-128 from by omega] at this
  rw [this];omega
 have HN:=lh hn
 clear hn
 go_enter Tryz.func107,Tryz.ntmps107
 go_wp2_with fail
 rw [HN.out]
 go_ret3
 exact ⟨rfl,rfl⟩
theorem readNum_wideM (s:ByteArray) (a:Nat) (w:World) (h0:0<s.size) (hsz:s.size≤9223372036854775807) (hxa:s[0].toNat ^^^ 255=a) (hd:s[0].toNat<128) (ha:240≤a) (n z e:Int) (hr:Pl.rdWide s[0] s.data.toList.tail 255=(n,z,e)):
  Calls Tryz.prog 107 #[.string s] w fun e' w'=>e'=.returned (.tuple #[.int .i64 (if e=0 then -n-1 else n),.int .i64 z,.int .i64 e])∧w=w':=by
 have hc:=readWide_any s 255 w (by omega) h0 hsz (by rw [hxa];exact ha) n z e hr
 have hlt:=Pl.xor_lt s[0] 255 (by omega)
 have hbd:=rdWide_bd _ _ _ _ _ _ hr (Pl.xor_lt _ _ (by omega)) (by rw [hxa];exact ha)
 have hx:bits .xor .u8 (s[0].toNat:Int) 255=(a:Int):=by
  have:=u8_xor_nat s[0].toNat 255 s[0].toNat_lt (by omega)
  rw [hxa] at this
  exact this
 rw [hxa] at hlt
 have h1:=empty_false s h0
 have HC:=lh hc
 clear hr hxa hc
 obtain ⟨⟨b1,b2⟩,_,_,_⟩:=hbd
 by_cases he:e=0
 ·subst he
  rw [if_pos rfl]
  have hn:bits .xor .i64 (-1) n = -n-1:=by
   obtain ⟨m,rfl⟩:=Int.eq_ofNat_of_zero_le b1
   rw [i64_not m (by omega)];omega
  have HN:=lh hn
  clear hn
  go_enter Tryz.func107,Tryz.ntmps107
  go_wp2_with (refine HC.out.mono ?_;rintro e w' ⟨rfl,rfl⟩)
  rw [HN.out]
  go_ret3
  exact ⟨rfl,rfl⟩
 ·have he':(e==0)=false:=by simpa using he
  rw [if_neg he]
  clear he
  go_enter Tryz.func107,Tryz.ntmps107
  go_wp2_with (refine HC.out.mono ?_;rintro e w' ⟨rfl,rfl⟩)
  go_ret3
  exact ⟨rfl,rfl⟩
theorem readNum_any (s:ByteArray) (w:World) (hsz:s.size≤9223372036854775807) (n z e:Int) (hr:Pl.rdNum s.data.toList=(n,z,e)):
  Calls Tryz.prog 107 #[.string s] w fun e' w'=>e'=.returned (.tuple #[.int .i64 n,.int .i64 z,.int .i64 e])∧w=w':=by
 by_cases h0:s.size=0
 ·have:s.data.toList=[]:=by
   have:s.data.toList.length=0:=by simpa using h0
   exact List.length_eq_zero_iff.1 this
  rw [this] at hr
  obtain ⟨rfl,rfl,rfl⟩:0=n∧0=z∧2=e:=by simpa [Pl.rdNum] using hr
  exact readNum_empty s w h0
 ·have h0:0<s.size:=by omega
  rw [rdNum_cons s h0] at hr
  have hu:s[0].toNat<256:=s[0].toNat_lt
  unfold Pl.flipOf at hr
  by_cases hd:s[0].toNat<128
  ·rw [if_pos hd] at hr
   have hlt:=Pl.xor_lt s[0] 255 (by omega)
   have hge:128≤s[0].toNat ^^^ 255:=by
    have:∀x:Fin 128,128≤x.val ^^^ 255:=by decide +kernel
    exact this ⟨_,hd⟩
   have hx:=u8_xor_nat s[0].toNat 255 hu (by omega)
   obtain ⟨a,ha⟩:∃a,s[0].toNat ^^^ 255=a:=⟨_,rfl⟩
   rw [ha] at hr hlt hge hx
   by_cases h1:a<240
   ·rw [if_pos h1] at hr
    obtain ⟨rfl,rfl,rfl⟩:-((a:Int)-128)-1=n∧1=z∧0=e:=by simpa [Pl.back] using hr
    exact readNum_nearM s a w h0 hx hd hge h1
   ·rw [if_neg h1] at hr
    obtain ⟨n',z',e',hw⟩:∃n z e,Pl.rdWide s[0] s.data.toList.tail 255=(n,z,e):=⟨_,_,_,rfl⟩
    rw [hw] at hr
    have:=readNum_wideM s a w h0 hsz ha hd (by omega) n' z' e' hw
    have h3:(if e'=0 then -n'-1 else n')=n∧z'=z∧e'=e:=by
     unfold Pl.back at hr
     by_cases he:e'=0
     ·rw [if_pos ⟨he,by omega⟩] at hr
      rw [if_pos he]
      simpa using hr
     ·rw [if_neg (fun h=>he h.1)] at hr
      rw [if_neg he]
      simpa using hr
    obtain ⟨rfl,rfl,rfl⟩:=h3
    exact this
  ·rw [if_neg hd,Nat.xor_zero] at hr
   by_cases h1:s[0].toNat<240
   ·rw [if_pos h1] at hr
    obtain ⟨rfl,rfl,rfl⟩:(s[0].toNat:Int)-128=n∧1=z∧0=e:=by simpa [Pl.back] using hr
    exact readNum_near s w h0 (by omega) h1
   ·rw [if_neg h1] at hr
    have h3:Pl.rdWide s[0] s.data.toList.tail 0=(n,z,e):=by simpa [Pl.back] using hr
    exact readNum_wide0 s w h0 hsz (by omega) n z e h3
theorem rdNum_bd (l:List UInt8) (n z e:Int) (h:Pl.rdNum l=(n,z,e)):
  (-9223372036854775808≤n∧n≤9223372036854775807)∧(0≤z∧z≤l.length)∧(e=0∨e=2∨e=3)∧(e≠0→n=0∧z=0):=by
 cases l with
 | nil=>
  obtain ⟨rfl,rfl,rfl⟩:0=n∧0=z∧2=e:=by simpa [Pl.rdNum] using h
  exact ⟨by omega,by simp,by omega,by omega⟩
 | cons c t=>
  have hf:Pl.flipOf c<256:=by unfold Pl.flipOf;split <;> omega
  have hlt:=Pl.xor_lt c _ hf
  have hge:128≤c.toNat ^^^ Pl.flipOf c:=by
   have hu:=c.toNat_lt
   unfold Pl.flipOf
   split
   ·rename_i hd
    have:∀x:Fin 128,128≤x.val ^^^ 255:=by decide +kernel
    exact this ⟨_,hd⟩
   ·rw [Nat.xor_zero];omega
  simp only [Pl.rdNum] at h
  simp only [List.length_cons]
  by_cases h1:c.toNat ^^^ Pl.flipOf c<240
  ·rw [if_pos h1] at h
   generalize c.toNat ^^^ Pl.flipOf c=a at *
   unfold Pl.back at h
   split at h
   ·obtain ⟨rfl,rfl,rfl⟩:-((a:Int)-128)-1=n∧1=z∧0=e:=by simpa using h
    omega
   ·obtain ⟨rfl,rfl,rfl⟩:(a:Int)-128=n∧1=z∧0=e:=by simpa using h
    omega
  ·rw [if_neg h1] at h
   obtain ⟨n',z',e',hw⟩:∃n z e,Pl.rdWide c t (Pl.flipOf c)=(n,z,e):=⟨_,_,_,rfl⟩
   have hb:=rdWide_bd _ _ _ _ _ _ hw hlt (by omega)
   rw [hw] at h
   unfold Pl.back at h
   split at h
   ·obtain ⟨rfl,rfl,rfl⟩:-n'-1=n∧z'=z∧e'=e:=by simpa using h
    rename_i h0
    have:e'=0:=h0.1
    omega
   ·obtain ⟨rfl,rfl,rfl⟩:n'=n∧z'=z∧e'=e:=by simpa using h
    omega
end
end Go.Proofs.YtmdefnbpimfbgaaGreatDoor
