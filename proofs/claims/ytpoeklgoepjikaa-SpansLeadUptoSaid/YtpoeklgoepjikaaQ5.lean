/-
  Lemmas on automata, the program's calls and the given ones, put together of 19 texts (part 5).
-/
import Derived.Shelf.Small.Bits
import Derived.Shelf.Small.Wraps
import Derived.Shelf.Utf8.AppendRune
import Derived.Shelf.Utf8.AppendRunePlain
import Derived.Shelf.Strconv.Itoa0
import Derived.Shelf.Sort.Plain
import Derived.Ground.Names2Prog
import Derived.Shelf.Slices.Clone
import Derived.Shelf.Slices.SearchI
import Derived.Shelf.Slices.In.SortNone
import Derived.Ground.SlgnProg
import Derived.Shelf.SlicesE.Clone
import Derived.Test.YtpoeklgoepjikaaProg
import Derived.Test.YtpoeklgoepjikaaQ1
import Derived.Lib.SliceRun
import Derived.Deep.RegionHeld3
import Derived.Deep.DeepCutAuto
import Derived.RegionTactic
import Derived.BigRegion
import Derived.Test.YtpoeklgoepjikaaQ2
import Derived.Deep.QuietTactic
import Derived.BigQuiet
import Derived.Laws.StructEq
import Derived.Deep.AppendLies
import Derived.Test.YtpoeklgoepjikaaQ3
import Derived.StillTailTactics
import Derived.Deep.Cut
import Derived.Test.YtpoeklgoepjikaaQ4
/-
  Contracts of library functions at this program's numbers, each one application of the library's theorem.
-/
namespace Go.Proofs
open Go.Shelf
def Try.lays128_ren : Go.Shelf.Ren := ⟨fun | 128 => 71 | n => n, fun | 51 => 127 | 3 => 3 | 4 => 4 | 46 => 101 | 5 => 5 | 9 => 9 | n => n, fun | n => n⟩
theorem Try.lays128 : Go.Proofs.Lays.n128 Try.prog Try.lays128_ren := {
  mixed := by kernel_rfl
  f128 := Try.func71.trans (congrArg some (by kernel_rfl))
  t3 := Try.underlying3
  a3 := Try.isAgg3
  z3 := Try.sizeOf3
  v3 := Try.zeroValue3
  t4 := Try.underlying4
  a4 := Try.isAgg4
  z4 := Try.sizeOf4
  v4 := Try.zeroValue4
  t5 := Try.underlying5
  a5 := Try.isAgg5
  z5 := Try.sizeOf5
  v5 := Try.zeroValue5
  t9 := Try.underlying9
  a9 := Try.isAgg9
  z9 := Try.sizeOf9
  v9 := Try.zeroValue9
  t46 := Try.underlying101
  a46 := Try.isAgg101
  z46 := Try.sizeOf101
  v46 := Try.zeroValue101
  t51 := Try.underlying127
  a51 := Try.isAgg127
  z51 := Try.sizeOf127
  v51 := Try.zeroValue127 }
theorem Try.bits_Len32 (x : Int) (w : World) (h0 : 0 ≤ x) (h1 : x ≤ 4294967295) :
    Calls Try.prog 71 #[.int .u32 x] w fun e w' => e = .returned (.int .i64 (Lib.bitLen x.toNat)) ∧ w' = w := Any.bits_Len32 Try.lays128 x w h0 h1
def Try.lays125_ren : Go.Shelf.Ren := ⟨fun | 125 => 50 | 128 => 71 | 129 => 72 | n => n, fun | 46 => 101 | 3 => 3 | 51 => 127 | 53 => 129 | 4 => 4 | 5 => 5 | 9 => 9 | n => n, fun | n => n⟩
theorem Try.lays125 : Go.Proofs.Lays.n125 Try.prog Try.lays125_ren := {
  mixed := by kernel_rfl
  f125 := Try.func50.trans (congrArg some (by kernel_rfl))
  f128 := Try.func71.trans (congrArg some (by kernel_rfl))
  f129 := Try.func72.trans (congrArg some (by kernel_rfl))
  t3 := Try.underlying3
  a3 := Try.isAgg3
  z3 := Try.sizeOf3
  v3 := Try.zeroValue3
  t4 := Try.underlying4
  a4 := Try.isAgg4
  z4 := Try.sizeOf4
  v4 := Try.zeroValue4
  t5 := Try.underlying5
  a5 := Try.isAgg5
  z5 := Try.sizeOf5
  v5 := Try.zeroValue5
  t9 := Try.underlying9
  a9 := Try.isAgg9
  z9 := Try.sizeOf9
  v9 := Try.zeroValue9
  t46 := Try.underlying101
  a46 := Try.isAgg101
  z46 := Try.sizeOf101
  v46 := Try.zeroValue101
  t51 := Try.underlying127
  a51 := Try.isAgg127
  z51 := Try.sizeOf127
  v51 := Try.zeroValue127
  t53 := Try.underlying129
  a53 := Try.isAgg129
  z53 := Try.sizeOf129
  v53 := Try.zeroValue129 }
theorem Try.bits_Len (x : Int) (w : World) (h0 : 0 ≤ x) (h1 : x ≤ 18446744073709551615) :
    Calls Try.prog 50 #[.int .u64 x] w fun e w' => e = .returned (.int .i64 (Lib.bitLen x.toNat)) ∧ w' = w := Any.bits_Len Try.lays125 x w h0 h1
def Try.lays215_ren : Go.Shelf.Ren := ⟨fun | 215 => 85 | n => n, fun | 3 => 3 | 4 => 4 | n => n, fun | n => n⟩
theorem Try.lays215 : Go.Proofs.Lays.n215 Try.prog Try.lays215_ren := {
  mixed := by kernel_rfl
  f215 := Try.func85.trans (congrArg some (by kernel_rfl))
  t3 := Try.underlying3
  a3 := Try.isAgg3
  z3 := Try.sizeOf3
  v3 := Try.zeroValue3
  t4 := Try.underlying4
  a4 := Try.isAgg4
  z4 := Try.sizeOf4
  v4 := Try.zeroValue4 }
open Go.RowKit in
theorem Try.cmp_isNaN_int (x : Int) (w : World) :
    Calls Try.prog 85 #[.int .i64 x] w fun e w' => e = .returned (.bool false) ∧ w' = w := Any.cmp_isNaN_int Try.lays215 x w
def Try.lays278_ren : Go.Shelf.Ren := ⟨fun | 278 => 79 | n => n, fun | 37 => 98 | 21 => 21 | 51 => 127 | 4 => 4 | 46 => 101 | 5 => 5 | n => n, fun | n => n⟩
theorem Try.lays278 : Go.Proofs.Lays.n278 Try.prog Try.lays278_ren := {
  mixed := by kernel_rfl
  f278 := Try.func79.trans (congrArg some (by kernel_rfl))
  t4 := Try.underlying4
  a4 := Try.isAgg4
  z4 := Try.sizeOf4
  v4 := Try.zeroValue4
  t5 := Try.underlying5
  a5 := Try.isAgg5
  z5 := Try.sizeOf5
  v5 := Try.zeroValue5
  t21 := Try.underlying21
  a21 := Try.isAgg21
  z21 := Try.sizeOf21
  v21 := Try.zeroValue21
  t37 := Try.underlying98
  a37 := Try.isAgg98
  z37 := Try.sizeOf98
  v37 := Try.zeroValue98
  t46 := Try.underlying101
  a46 := Try.isAgg101
  z46 := Try.sizeOf101
  v46 := Try.zeroValue101
  t51 := Try.underlying127
  a51 := Try.isAgg127
  z51 := Try.sizeOf127
  v51 := Try.zeroValue127 }
open Go.RowKit in
theorem Try.utf8_appendRuneNonASCII_row (B : Nat) (v : Value) (n : Nat) (xs : List Value) (r : Int) (hr0 : -2147483648 ≤ r) (hr1 : r ≤ 2147483647) (hna : r < 0 ∨ 128 ≤ r) (w : World) (hown : w.ownsRowF B 5 1 v n xs) (hlen : n + 4 ≤ 140737488355328) (hBw : B ≤ w.heap.size) :
    Calls Try.prog 79 #[v, .int .i32 r] w fun e w' => ∃ v', e = .returned v' ∧ w'.ownsRowF B 5 1 v' (n + (Lib.runeCells r).length) (xs ++ Lib.runeCells r) ∧ ∃ o, (w.alloc o).grownBy w' v.ownBlock := Any.utf8_appendRuneNonASCII_row Try.lays278 (by kernel_rfl) B v n xs r hr0 hr1 hna w hown hlen hBw
def Try.lays242_ren : Go.Shelf.Ren := ⟨fun | 242 => 61 | 278 => 79 | n => n, fun | 37 => 98 | 21 => 21 | 51 => 127 | 4 => 4 | 5 => 5 | 46 => 101 | n => n, fun | n => n⟩
theorem Try.lays242 : Go.Proofs.Lays.n242 Try.prog Try.lays242_ren := {
  mixed := by kernel_rfl
  f242 := Try.func61.trans (congrArg some (by kernel_rfl))
  f278 := Try.func79.trans (congrArg some (by kernel_rfl))
  t4 := Try.underlying4
  a4 := Try.isAgg4
  z4 := Try.sizeOf4
  v4 := Try.zeroValue4
  t5 := Try.underlying5
  a5 := Try.isAgg5
  z5 := Try.sizeOf5
  v5 := Try.zeroValue5
  t21 := Try.underlying21
  a21 := Try.isAgg21
  z21 := Try.sizeOf21
  v21 := Try.zeroValue21
  t37 := Try.underlying98
  a37 := Try.isAgg98
  z37 := Try.sizeOf98
  v37 := Try.zeroValue98
  t46 := Try.underlying101
  a46 := Try.isAgg101
  z46 := Try.sizeOf101
  v46 := Try.zeroValue101
  t51 := Try.underlying127
  a51 := Try.isAgg127
  z51 := Try.sizeOf127
  v51 := Try.zeroValue127 }
open Go.RowKit in
theorem Try.utf8_AppendRune_row (B : Nat) (v : Value) (n : Nat) (xs : List Value) (r : Int) (hr0 : -2147483648 ≤ r) (hr1 : r ≤ 2147483647) (w : World) (hown : w.ownsRowF B 5 1 v n xs) (hlen : n + 4 ≤ 140737488355328) (hBw : B ≤ w.heap.size) :
    Calls Try.prog 61 #[v, .int .i32 r] w fun e w' => ∃ v', e = .returned v' ∧ w'.ownsRowF B 5 1 v' (n + (Lib.runeCells r).length) (xs ++ Lib.runeCells r) ∧ ∃ o, (w.alloc o).grownBy w' v.ownBlock := Any.utf8_AppendRune_row Try.lays242 (by kernel_rfl) B v n xs r hr0 hr1 w hown hlen hBw
open Go.RowKit in
theorem Try.utf8_appendRuneNonASCII_plain (B : Nat) (v : Value) (n : Nat) (xs : List Value) (r : Int) (hr0 : -2147483648 ≤ r) (hr1 : r ≤ 2147483647) (hna : r < 0 ∨ 128 ≤ r) (w : World) (hown : w.ownsRow B 5 1 v n xs) (hlen : n + 4 ≤ 140737488355328) (hBw : B ≤ w.heap.size) :
    Calls Try.prog 79 #[v, .int .i32 r] w fun e w' => ∃ v', e = .returned v' ∧ w'.ownsRow B 5 1 v' (n + (Lib.runeCells r).length) (xs ++ Lib.runeCells r) ∧ ∃ o, (w.alloc o).grownBy w' v.ownBlock := Any.utf8_appendRuneNonASCII_plain Try.lays278 (by kernel_rfl) B v n xs r hr0 hr1 hna w hown hlen hBw
open Go.RowKit in
theorem Try.utf8_AppendRune_plain (B : Nat) (v : Value) (n : Nat) (xs : List Value) (r : Int) (hr0 : -2147483648 ≤ r) (hr1 : r ≤ 2147483647) (w : World) (hown : w.ownsRow B 5 1 v n xs) (hlen : n + 4 ≤ 140737488355328) (hBw : B ≤ w.heap.size) :
    Calls Try.prog 61 #[v, .int .i32 r] w fun e w' => ∃ v', e = .returned v' ∧ w'.ownsRow B 5 1 v' (n + (Lib.runeCells r).length) (xs ++ Lib.runeCells r) ∧ ∃ o, (w.alloc o).grownBy w' v.ownBlock := Any.utf8_AppendRune_plain Try.lays242 (by kernel_rfl) B v n xs r hr0 hr1 w hown hlen hBw
def Try.lays129_ren : Go.Shelf.Ren := ⟨fun | 129 => 72 | n => n, fun | 53 => 129 | 3 => 3 | 4 => 4 | 46 => 101 | 5 => 5 | 9 => 9 | n => n, fun | n => n⟩
theorem Try.lays129 : Go.Proofs.Lays.n129 Try.prog Try.lays129_ren := {
  mixed := by kernel_rfl
  f129 := Try.func72.trans (congrArg some (by kernel_rfl))
  t3 := Try.underlying3
  a3 := Try.isAgg3
  z3 := Try.sizeOf3
  v3 := Try.zeroValue3
  t4 := Try.underlying4
  a4 := Try.isAgg4
  z4 := Try.sizeOf4
  v4 := Try.zeroValue4
  t5 := Try.underlying5
  a5 := Try.isAgg5
  z5 := Try.sizeOf5
  v5 := Try.zeroValue5
  t9 := Try.underlying9
  a9 := Try.isAgg9
  z9 := Try.sizeOf9
  v9 := Try.zeroValue9
  t46 := Try.underlying101
  a46 := Try.isAgg101
  z46 := Try.sizeOf101
  v46 := Try.zeroValue101
  t53 := Try.underlying129
  a53 := Try.isAgg129
  z53 := Try.sizeOf129
  v53 := Try.zeroValue129 }
theorem Try.bits_Len64 (x : Int) (w : World) (h0 : 0 ≤ x) (h1 : x ≤ 18446744073709551615) :
    Calls Try.prog 72 #[.int .u64 x] w fun e w' => e = .returned (.int .i64 (Lib.bitLen x.toNat)) ∧ w' = w := Any.bits_Len64 Try.lays129 x w h0 h1
def Try.lays189_ren : Go.Shelf.Ren := ⟨fun | 189 => 36 | 125 => 50 | 257 => 49 | 128 => 71 | 129 => 72 | 294 => 62 | 295 => 63 | 296 => 64 | 297 => 65 | 298 => 66 | 299 => 67 | 216 => 68 | 300 => 69 | 301 => 70 | 328 => 80 | 329 => 81 | 330 => 82 | 331 => 83 | 332 => 84 | 215 => 85 | 343 => 88 | n => n, fun | 28 => 23 | 3 => 3 | 46 => 101 | 0 => 0 | 51 => 127 | 53 => 129 | 4 => 4 | 183 => 121 | 182 => 120 | 131 => 79 | 5 => 5 | 9 => 9 | 218 => 138 | 222 => 142 | 228 => 147 | 229 => 148 | n => n, fun | n => n⟩
theorem Try.lays189 : Go.Proofs.Lays.n189 Try.prog Try.lays189_ren := {
  mixed := by kernel_rfl
  f125 := Try.func50.trans (congrArg some (by kernel_rfl))
  f128 := Try.func71.trans (congrArg some (by kernel_rfl))
  f129 := Try.func72.trans (congrArg some (by kernel_rfl))
  f189 := Try.func36.trans (congrArg some (by kernel_rfl))
  f215 := Try.func85.trans (congrArg some (by kernel_rfl))
  f216 := Try.func68.trans (congrArg some (by kernel_rfl))
  f257 := Try.func49.trans (congrArg some (by kernel_rfl))
  f294 := Try.func62.trans (congrArg some (by kernel_rfl))
  f295 := Try.func63.trans (congrArg some (by kernel_rfl))
  f296 := Try.func64.trans (congrArg some (by kernel_rfl))
  f297 := Try.func65.trans (congrArg some (by kernel_rfl))
  f298 := Try.func66.trans (congrArg some (by kernel_rfl))
  f299 := Try.func67.trans (congrArg some (by kernel_rfl))
  f300 := Try.func69.trans (congrArg some (by kernel_rfl))
  f301 := Try.func70.trans (congrArg some (by kernel_rfl))
  f328 := Try.func80.trans (congrArg some (by kernel_rfl))
  f329 := Try.func81.trans (congrArg some (by kernel_rfl))
  f330 := Try.func82.trans (congrArg some (by kernel_rfl))
  f331 := Try.func83.trans (congrArg some (by kernel_rfl))
  f332 := Try.func84.trans (congrArg some (by kernel_rfl))
  f343 := Try.func88.trans (congrArg some (by kernel_rfl))
  t0 := Try.underlying0
  a0 := Try.isAgg0
  z0 := Try.sizeOf0
  v0 := Try.zeroValue0
  t3 := Try.underlying3
  a3 := Try.isAgg3
  z3 := Try.sizeOf3
  v3 := Try.zeroValue3
  t4 := Try.underlying4
  a4 := Try.isAgg4
  z4 := Try.sizeOf4
  v4 := Try.zeroValue4
  t5 := Try.underlying5
  a5 := Try.isAgg5
  z5 := Try.sizeOf5
  v5 := Try.zeroValue5
  t9 := Try.underlying9
  a9 := Try.isAgg9
  z9 := Try.sizeOf9
  v9 := Try.zeroValue9
  t28 := Try.underlying23
  a28 := Try.isAgg23
  z28 := Try.sizeOf23
  v28 := Try.zeroValue23
  t46 := Try.underlying101
  a46 := Try.isAgg101
  z46 := Try.sizeOf101
  v46 := Try.zeroValue101
  t51 := Try.underlying127
  a51 := Try.isAgg127
  z51 := Try.sizeOf127
  v51 := Try.zeroValue127
  t53 := Try.underlying129
  a53 := Try.isAgg129
  z53 := Try.sizeOf129
  v53 := Try.zeroValue129
  t131 := Try.underlying79
  a131 := Try.isAgg79
  z131 := Try.sizeOf79
  v131 := Try.zeroValue79
  t182 := Try.underlying120
  a182 := Try.isAgg120
  z182 := Try.sizeOf120
  v182 := Try.zeroValue120
  t183 := Try.underlying121
  a183 := Try.isAgg121
  z183 := Try.sizeOf121
  v183 := Try.zeroValue121
  t218 := Try.underlying138
  a218 := Try.isAgg138
  z218 := Try.sizeOf138
  v218 := Try.zeroValue138
  t222 := Try.underlying142
  a222 := Try.isAgg142
  z222 := Try.sizeOf142
  v222 := Try.zeroValue142
  t228 := Try.underlying147
  a228 := Try.isAgg147
  z228 := Try.sizeOf147
  v228 := Try.zeroValue147
  t229 := Try.underlying148
  a229 := Try.isAgg148
  z229 := Try.sizeOf148
  v229 := Try.zeroValue148 }
open Go.Sort Go.RowKit in
theorem Try.slices_Sort_int (blk off cap : Nat) (zs : List Int) (w : World) (hH : Holds (Value.int .i64) w blk off zs.toArray) (hblk : blk < w.heap.size) (hsz : zs.length < 4611686018427387904) :
    Calls Try.prog 36 #[.slice (some ⟨blk, off, none⟩) zs.length cap] w fun e w' =>
      e = .returned (.tuple #[]) ∧ ∃ n os, w' = grow (putRow (Value.int .i64) (Sort.ahead w n) blk off (zs.mergeSort fun x y => decide (x ≤ y)).toArray) os := Any.slices_Sort_int Try.lays189 blk off cap zs w hH hblk hsz
def Try.laysNm215_ren : Go.Shelf.Ren := ⟨fun | 15 => 29 | n => n, fun | 22 => 23 | 3 => 3 | 4 => 4 | n => n, fun | n => n⟩
theorem Try.laysNm215 : Go.Proofs.Lays2.n15 Try.prog Try.laysNm215_ren := {
  mixed := by kernel_rfl
  f15 := Try.func29.trans (congrArg some (by kernel_rfl))
  t3 := Try.underlying3
  a3 := Try.isAgg3
  z3 := Try.sizeOf3
  v3 := Try.zeroValue3
  t4 := Try.underlying4
  a4 := Try.isAgg4
  z4 := Try.sizeOf4
  v4 := Try.zeroValue4
  t22 := Try.underlying23
  a22 := Try.isAgg23
  z22 := Try.sizeOf23
  v22 := Try.zeroValue23
  i3 := by kernel_rfl }
open Go.RowKit Go.Lib in
theorem Try.slices_Clone_int (b off n c : Nat) (zs : List Int) (w : World) (hz : n ≤ zs.length) (hbig : n * 8 ≤ 140737488355328) (hc : ∀ j, j < zs.length → w.cell? ⟨b, off + j, none⟩ = some (.int .i64 (zs.getD j 0))) :
    Calls Try.prog 29 #[.slice (some ⟨b, off, none⟩) n c] w fun e w' => ∃ v', e = .returned v' ∧ w'.ownsRow w.heap.size 3 1 v' n ((zs.take n).map (Value.int .i64)) ∧ v' ≠ .slice none 0 0 ∧ Below w.heap.size w w' := Any.slices_Clone_int Try.laysNm215 b off n c zs w hz hbig hc
open Go.RowKit Go.Lib in
theorem Try.slices_Clone_int_nil (n c : Nat) (w : World) :
    Calls Try.prog 29 #[.slice none n c] w fun e w' => e = .returned (.slice none 0 0) ∧ w' = w := Any.slices_Clone_int_nil Try.laysNm215 n c w
open Go.RowKit Go.Lib in
theorem Try.slices_Clone_int_zero (a : Addr) (c : Nat) (w : World) :
    Calls Try.prog 29 #[.slice (some a) 0 c] w fun e w' => ∃ v', e = .returned v' ∧ w'.ownsRow w.heap.size 3 1 v' 0 [] ∧ v' ≠ .slice none 0 0 ∧ Below w.heap.size w w' := Any.slices_Clone_int_zero Try.laysNm215 a c w
def Try.laysNm237_ren : Go.Shelf.Ren := ⟨fun | 37 => 85 | n => n, fun | 3 => 3 | 4 => 4 | n => n, fun | n => n⟩
theorem Try.laysNm237 : Go.Proofs.Lays2.n37 Try.prog Try.laysNm237_ren := {
  mixed := by kernel_rfl
  f37 := Try.func85.trans (congrArg some (by kernel_rfl))
  t3 := Try.underlying3
  a3 := Try.isAgg3
  z3 := Try.sizeOf3
  v3 := Try.zeroValue3
  t4 := Try.underlying4
  a4 := Try.isAgg4
  z4 := Try.sizeOf4
  v4 := Try.zeroValue4 }
open Go.RowKit Go.Lib in
theorem Try.cmp_isNaN_int2 (x : Int) (w : World) :
    Calls Try.prog 85 #[.int .i64 x] w fun e w' => e = .returned (.bool false) ∧ w' = w := Any.cmp_isNaN_int2 Try.laysNm237 x w
def Try.laysNm231_ren : Go.Shelf.Ren := ⟨fun | 31 => 68 | 37 => 85 | n => n, fun | 3 => 3 | 4 => 4 | n => n, fun | n => n⟩
theorem Try.laysNm231 : Go.Proofs.Lays2.n31 Try.prog Try.laysNm231_ren := {
  mixed := by kernel_rfl
  f31 := Try.func68.trans (congrArg some (by kernel_rfl))
  f37 := Try.func85.trans (congrArg some (by kernel_rfl))
  t3 := Try.underlying3
  a3 := Try.isAgg3
  z3 := Try.sizeOf3
  v3 := Try.zeroValue3
  t4 := Try.underlying4
  a4 := Try.isAgg4
  z4 := Try.sizeOf4
  v4 := Try.zeroValue4 }
open Go.RowKit Go.Lib in
theorem Try.cmp_Less_int2 (x y : Int) (w : World) :
    Calls Try.prog 68 #[.int .i64 x, .int .i64 y] w fun e w' => e = .returned (.bool (decide (x < y))) ∧ w' = w := Any.cmp_Less_int2 Try.laysNm231 x y w
open Go.RowKit Go.Sort in
theorem Try.slices_Sort_int_none (p : Option Addr) (cap : Nat) (w : World) :
    Calls Try.prog 36 #[.slice p 0 cap] w fun e w' => e = .returned (.tuple #[]) ∧ w' = w := Any.slices_Sort_int_none Try.lays189 p cap w
def Try.laysSlE041_f29_ren : Go.Shelf.Ren := ⟨fun | 41 => 29 | n => n, fun | 22 => 23 | 23 => 3 | 4 => 4 | n => n, fun | n => n⟩
theorem Try.laysSlE041_f29 : Go.Proofs.SlLaysE0.n41 Try.prog Try.laysSlE041_f29_ren := {
  mixed := by kernel_rfl
  f41 := ⟨Try.f29.name, by decide, Try.func29.trans (congrArg some (by kernel_rfl))⟩
  t4 := Try.underlying4
  a4 := Try.isAgg4
  z4 := Try.sizeOf4
  v4 := Try.zeroValue4
  t22 := Try.underlying23
  a22 := Try.isAgg23
  z22 := Try.sizeOf23
  v22 := Try.zeroValue23 }
open Go.RowKit Go.Lib in
theorem Try.slices_Clone (i0 : TypeInfo) (z : Value) (size bytes : Nat) (hi : Try.prog.info? 3 = some i0) (hz0 : i0.zero = some z) (hz1 : i0.size = size) (hz2 : i0.bytes = bytes) (hzs : z.cells.size = size) (hsz : 0 < size) (z23 : ∀ w, (Go.sizeOf 3).run Try.prog w = .ok size w) (b off n c : Nat) (news : List Value) (w : World) (hl : news.length = n * size) (hn : n ≤ maxLen) (hbig : n * bytes ≤ 140737488355328) (hc : ∀ j u, news[j]? = some u → w.cell? ⟨b, off + j, none⟩ = some u) (h1 : ∀ u ∈ news, u.oneCell' = true) :
    Calls Try.prog 29 #[.slice (some ⟨b, off, none⟩) n c] w fun e w' => ∃ v', e = .returned v' ∧ w'.ownsRow w.heap.size 3 size v' n news ∧ v' ≠ .slice none 0 0 ∧ Below w.heap.size w w' := AnyE.slices_Clone Try.laysSlE041_f29 i0 z size bytes hi hz0 hz1 hz2 hzs hsz z23 b off n c news w hl hn hbig hc h1
open Go.RowKit Go.Lib in
theorem Try.slices_Clone_nil (n c : Nat) (w : World) :
    Calls Try.prog 29 #[.slice none n c] w fun e w' => e = .returned (.slice none 0 0) ∧ w' = w := AnyE.slices_Clone_nil Try.laysSlE041_f29 n c w
end Go.Proofs

/-
  Loose states of the call's own; slices.Clone of arcs and of numbers.
-/
namespace Go.Proofs.Ytpoeklgoepjikaa
open Go.RowKit

/-- The slice v is the call's own, from block B on, and holds these numbers. -/
def OwnZ (w : World) (B : Nat) (v : Value) (l : List Int) : Prop := w.ownsRow B 3 1 v l.length (l.map (Value.int .i64))
theorem OwnZ.kind {w : World} {B : Nat} {v : Value} {l : List Int} (h : OwnZ w B v l) : ∀ g, v.ownBlock = some g → B ≤ g ∧ g < w.heap.size ∧ ∃ c fz, w.heap[g]? = some (Obj.cells c 3 fz) := by
  intro g hv
  refine ⟨(World.ownsRow.lt h g hv).1, (World.ownsRow.lt h g hv).2, ?_⟩
  rcases h.2 with ⟨h1, _⟩ | ⟨g', cap, cur, h1, hg, hh, _⟩
  · rw [h1] at hv; cases hv
  · rw [h1] at hv
    obtain rfl : g' = g := by simpa [Value.ownBlock] using hv
    exact ⟨_, _, hh⟩
theorem OwnZ.nums {w : World} {B : Nat} {v : Value} {l : List Int} (h : OwnZ w B v l) (F : Nat → Prop) (hF : ∀ g, B ≤ g → F g) : NumS F w v l := by
  rcases h.2 with ⟨rfl, h0⟩ | ⟨g, cap, cur, rfl, hg, hh, hnc, hcp, hcs, htake⟩
  · exact ⟨none, 0, by rw [h0], by omega, by omega, fun h => by omega⟩
  · have hown : w.ownsRow B 3 1 (.slice (some ⟨g, 0, none⟩) l.length cap) l.length (l.map (Value.int .i64)) := h
    refine ⟨_, cap, rfl, hnc, by unfold maxLen at hcp; omega, fun h => ⟨g, 0, rfl, (hown.lt g rfl).2, hF g hg, fun j hj => ?_⟩⟩
    rw [Nat.zero_add, hown.cellAt j (by omega)]
    simp [hj]
theorem cloneZ_any (w : World) (v : Value) (l : List Int) (F : Nat → Prop) (h : NumS F w v l) (hl : l.length * 8 ≤ 140737488355328) :
    Calls Try.prog 29 #[v] w fun e w' => ∃ v', e = .returned v' ∧ OwnZ w' w.heap.size v' l ∧ Below w.heap.size w w' := by
  obtain ⟨a, cap, rfl, _, _, hc⟩ := h
  cases a with
  | none =>
    have h0 : l = [] := by
      rcases Nat.eq_zero_or_pos l.length with h0 | h0
      · exact List.length_eq_zero_iff.1 h0
      · obtain ⟨g, o, hh, _⟩ := hc h0
        cases hh
    subst h0
    refine (Try.slices_Clone_int_nil _ _ w).mono ?_
    rintro e w' ⟨rfl, rfl⟩
    exact ⟨_, rfl, World.ownsRow_nil _ _ _ _, Below.refl _ _⟩
  | some ad =>
    rcases Nat.eq_zero_or_pos l.length with h0 | h0
    · obtain rfl : l = [] := List.length_eq_zero_iff.1 h0
      refine (Try.slices_Clone_int_zero ad cap w).mono ?_
      rintro e w' ⟨v', rfl, h1, _, h2⟩
      exact ⟨v', rfl, h1, h2⟩
    · obtain ⟨g, o, hh, _, _, hcell⟩ := hc h0
      cases hh
      refine (Try.slices_Clone_int g o l.length cap l w (Nat.le_refl _) hl (fun j hj => by rw [hcell j hj]; simp [List.getD, hj])).mono ?_
      rintro e w' ⟨v', rfl, h1, _, h2⟩
      refine ⟨v', rfl, ?_, h2⟩
      rw [List.take_length] at h1
      exact h1
theorem arcs_flat (l : List Au.Arc) (j : Nat) (u : Value) (h : (arcsV l)[j]? = some u) : j / 3 < l.length ∧ u = (if j % 3 = 0 then .int .i64 (l.getD (j / 3) ⟨0, 0, 0⟩).lo else if j % 3 = 1 then .int .i64 (l.getD (j / 3) ⟨0, 0, 0⟩).hi else .int .i64 (l.getD (j / 3) ⟨0, 0, 0⟩).to) := by
  have hj : j < (arcsV l).length := (List.getElem?_eq_some_iff.1 h).1
  rw [arcsV_length] at hj
  have hk : j / 3 < l.length := by omega
  obtain ⟨a1, a2, a3⟩ := arcsV_at l (j / 3) hk
  have e : l.getD (j / 3) ⟨0, 0, 0⟩ = l[j / 3] := by simp [List.getD, hk]
  refine ⟨hk, ?_⟩
  rw [e]
  have hm : j % 3 = 0 ∨ j % 3 = 1 ∨ j % 3 = 2 := by omega
  rcases hm with hm | hm | hm
  · rw [show j = j / 3 * 3 by omega, a1] at h
    rw [if_pos hm]
    exact (Option.some.inj h).symm
  · rw [show j = j / 3 * 3 + 1 by omega, a2] at h
    rw [if_neg (by omega), if_pos hm]
    exact (Option.some.inj h).symm
  · rw [show j = j / 3 * 3 + 2 by omega, a3] at h
    rw [if_neg (by omega), if_neg (by omega)]
    exact (Option.some.inj h).symm
theorem arcs_news {w : World} {g o : Nat} {l : List Au.Arc} (hcell : ∀ j (_ : j < l.length), w.cell? ⟨g, o + j * 3, none⟩ = some (.int .i64 l[j].lo) ∧ w.cell? ⟨g, o + j * 3 + 1, none⟩ = some (.int .i64 l[j].hi) ∧ w.cell? ⟨g, o + j * 3 + 2, none⟩ = some (.int .i64 l[j].to)) :
    ∀ j u, (arcsV l)[j]? = some u → w.cell? ((⟨g, o, none⟩ : Addr).add j) = some u := by
  intro j u h
  obtain ⟨hk, hu⟩ := arcs_flat l j u h
  have e : l.getD (j / 3) ⟨0, 0, 0⟩ = l[j / 3] := by simp [List.getD, hk]
  rw [e] at hu
  obtain ⟨b1, b2, b3⟩ := hcell (j / 3) hk
  rw [Addr.add_lit]
  have hm : j % 3 = 0 ∨ j % 3 = 1 ∨ j % 3 = 2 := by omega
  rcases hm with hm | hm | hm
  · rw [if_pos hm] at hu
    rw [hu, ← b1]
    congr 2
    omega
  · rw [if_neg (by omega), if_pos hm] at hu
    rw [hu, ← b2]
    congr 2
    omega
  · rw [if_neg (by omega), if_neg (by omega)] at hu
    rw [hu, ← b3]
    congr 2
    omega
theorem arcs_one (l : List Au.Arc) : ∀ u ∈ arcsV l, u.oneCell' = true := by
  intro u hu
  obtain ⟨x, _, hx⟩ := List.mem_flatMap.1 hu
  simp only [List.mem_cons, List.not_mem_nil, or_false] at hx
  rcases hx with rfl | rfl | rfl <;> rfl

set_option maxHeartbeats 2000000 in
set_option maxRecDepth 100000 in
theorem cloneA_any (w : World) (v : Value) (l : List Au.Arc) (F : Nat → Prop) (h : ArcS F w v l) (hl : l.length * 24 ≤ 140737488355328) :
    Calls Try.prog 28 #[v] w fun e w' => ∃ v', e = .returned v' ∧ OwnA w' w.heap.size v' l ∧ Below w.heap.size w w' := by
  obtain ⟨a, cap, rfl, _, hcp, hc⟩ := h
  have q := fun (w : World) (a : Option Addr) (n c n' c' : Nat) => Lib.run_eql_slice_nil (P := Try.prog) w 22 44 a n c n' c' Try.underlying22
  cases a with
  | none =>
    have h0 : l = [] := by
      rcases Nat.eq_zero_or_pos l.length with h0 | h0
      · exact List.length_eq_zero_iff.1 h0
      · obtain ⟨g, o, hh, _⟩ := hc h0
        cases hh
    subst h0
    go_enter Try.func28, Try.ntmps28
    go_wp2_with fail
    go_ret
    exact ⟨_, rfl, World.ownsRow_nil _ _ _ _, Below.refl _ _⟩
  | some ad =>
    have hnews : ∀ j u, (arcsV l)[j]? = some u → w.cell? (ad.add j) = some u := by
      rcases Nat.eq_zero_or_pos l.length with h0 | h0
      · obtain rfl : l = [] := List.length_eq_zero_iff.1 h0
        intro j u hu
        simp [arcsV] at hu
      · obtain ⟨g, o, hh, _, _, hcell⟩ := hc h0
        cases hh
        exact arcs_news hcell
    have HNW := Lib.hid hnews
    clear hnews hc
    obtain ⟨ii, hi, hz0, hz1, hz2⟩ := info_parts Try.infoA
    obtain ⟨n, hn⟩ : ∃ n, n = l.length := ⟨_, rfl⟩
    have HN := Lib.hid hn
    rw [← hn] at hl ⊢
    clear hn
    go_enter Try.func28, Try.ntmps28
    go_wp2_with (at_builtin; refine wpList_append_own _ rfl _ _ 22 rfl w.heap.size 44 ii _ 3 24 Try.underlying22 hi hz0 hz1 hz2 rfl (by decide) _ _ _ rfl (World.ownsRow_made w #[] 0 (Nat.le_refl _) (Nat.zero_le _) rfl) ad n cap (arcsV l) rfl (by rw [arcsV_length, HN.out]) (fun j u hu => Lib.cell?_alloc_some _ (HNW.out j u hu)) (arcs_one l) (by unfold maxLen; omega) (by omega) (by simp) ?_; intro v' w1 hown hgrow hnil; have HOW := Lib.hid hown; have HGR := Lib.hid hgrow; clear hown hgrow hnil)
    go_wp2_with fail
    go_ret
    refine ⟨v', rfl, ?_, ((Below.refl _ w).alloc (Nat.le_refl _) _).grown HGR.out (by simp) (by intro k hk; have hk2 : some w.heap.size = some k := hk; injection hk2 with hk2; omega)⟩
    unfold OwnA
    rw [← HN.out]
    simpa using HOW.out
end Go.Proofs.Ytpoeklgoepjikaa

/-
  Loose states of the call's own in memory; what copyOf answers.
-/
namespace Go.Proofs.Ytpoeklgoepjikaa
open Go.RowKit

theorem Try.infoLo : (Try.prog.info? 25).map (fun i => (i.zero, i.size, i.bytes)) = some (some (.agg #[.bool false, .slice none 0 0, .slice none 0 0]), 3, 56) := by kernel_rfl
abbrev LoV := Bool × Value × Value
/-- Loose states as cells: is it final, the slices of its arcs and of its free ones. -/
def losV (l : List LoV) : List Value := l.flatMap fun x => [.bool x.1, x.2.1, x.2.2]
theorem losV_length (l : List LoV) : (losV l).length = l.length * 3 := by
  induction l with
  | nil => rfl
  | cons x t ih =>
    show (_ :: _ :: _ :: losV t).length = _
    simp only [List.length_cons, ih]
    omega
theorem losV_snoc (l : List LoV) (x : LoV) : losV l ++ [.bool x.1, x.2.1, x.2.2] = losV (l ++ [x]) := by simp [losV]
theorem losV_at (l : List LoV) : ∀ i (h : i < l.length), (losV l)[i * 3]? = some (.bool l[i].1) ∧ (losV l)[i * 3 + 1]? = some l[i].2.1 ∧ (losV l)[i * 3 + 2]? = some l[i].2.2 := by
  induction l with
  | nil => intro i h; cases h
  | cons x t ih =>
    intro i h
    cases i with
    | zero => exact ⟨rfl, rfl, rfl⟩
    | succ i =>
      simp only [List.length_cons, Nat.add_lt_add_iff_right] at h
      have e : (i + 1) * 3 = i * 3 + 1 + 1 + 1 := by omega
      rw [e]
      exact ih i h
def cell3 (x : LoV) (j : Nat) : Value := if j % 3 = 0 then .bool x.1 else if j % 3 = 1 then x.2.1 else x.2.2
/-- The cell j of a list of loose states, the zero ones behind them. -/
def losCell (l : List LoV) (j : Nat) : Value := cell3 (l.getD (j / 3) (false, .slice none 0 0, .slice none 0 0)) j
theorem losCell_snoc (l : List LoV) (x : LoV) (j : Nat) : (if j = l.length * 3 + 2 then x.2.2 else if j = l.length * 3 + 1 then x.2.1 else if j = l.length * 3 then .bool x.1 else losCell l j) = losCell (l ++ [x]) j := by
  unfold losCell cell3
  have hx : j / 3 = l.length → (l ++ [x]).getD (j / 3) (false, .slice none 0 0, .slice none 0 0) = x := fun e => by rw [e]; simp [List.getD]
  by_cases e2 : j = l.length * 3 + 2
  · rw [if_pos e2, hx (by omega), if_neg (by omega), if_neg (by omega)]
  rw [if_neg e2]
  by_cases e1 : j = l.length * 3 + 1
  · rw [if_pos e1, hx (by omega), if_neg (by omega), if_pos (by omega)]
  rw [if_neg e1]
  by_cases e0 : j = l.length * 3
  · rw [if_pos e0, hx (by omega), if_pos (by omega)]
  rw [if_neg e0]
  have hg : (l ++ [x]).getD (j / 3) (false, .slice none 0 0, .slice none 0 0) = l.getD (j / 3) (false, .slice none 0 0, .slice none 0 0) := by
    by_cases h : j / 3 < l.length
    · simp [List.getD, List.getElem?_append_left h]
    · have h2 : l.length < j / 3 := by omega
      simp [List.getD, List.getElem?_eq_none (show l.length ≤ j / 3 by omega), List.getElem?_eq_none (show (l ++ [x]).length ≤ j / 3 by simp; omega)]
  rw [hg]
theorem losCell_at (l : List LoV) (j : Nat) (h : j < (losV l).length) : (losV l)[j]? = some (losCell l j) := by
  rw [losV_length] at h
  have hk : j / 3 < l.length := by omega
  obtain ⟨a1, a2, a3⟩ := losV_at l (j / 3) hk
  have e : l.getD (j / 3) (false, .slice none 0 0, .slice none 0 0) = l[j / 3] := by simp [List.getD, hk]
  unfold losCell cell3
  rw [e]
  have hm : j % 3 = 0 ∨ j % 3 = 1 ∨ j % 3 = 2 := by omega
  rcases hm with hm | hm | hm
  · rw [if_pos hm, ← a1]; congr 1; omega
  · rw [if_neg (by omega), if_pos hm, ← a2]; congr 1; omega
  · rw [if_neg (by omega), if_neg (by omega), ← a3]; congr 1; omega
/-- Lists of arcs and of free states, each of the call's own, the arcs in blocks apart. -/
structure LoEach (w : World) (B : Nat) (vals : List LoV) (L : List Au.Lo) : Prop where
  len : vals.length = L.length
  each : ∀ j (h : j < vals.length) (h2 : j < L.length), vals[j].1 = L[j].fin ∧ OwnA w B vals[j].2.1 L[j].arcs ∧ OwnZ w B vals[j].2.2 L[j].free
  apart : ∀ i j (hi : i < vals.length) (hj : j < vals.length), i ≠ j → ∀ g, vals[i].2.1.ownBlock = some g → vals[j].2.1.ownBlock ≠ some g
theorem LoEach.nil (w : World) (B : Nat) : LoEach w B [] [] := ⟨rfl, fun j h => by simp at h, fun i j h => by simp at h⟩
theorem LoEach.keep {w w' : World} {B : Nat} {vals : List LoV} {L : List Au.Lo} (h : LoEach w B vals L) (e : ∀ (g : Nat) (c : Array Value) (t : TypeId) (fz : Nat × Nat), w.heap[g]? = some (Obj.cells c t fz) → (t = 44 ∨ t = 3) → B ≤ g → w'.heap[g]? = w.heap[g]?) : LoEach w' B vals L := by
  refine ⟨h.len, fun j a b => ?_, h.apart⟩
  obtain ⟨h1, h2, h3⟩ := h.each j a b
  refine ⟨h1, h2.keep fun k hk => ?_, ownsRow_keep h3 fun k hk => ?_⟩
  · obtain ⟨c, fz, hc⟩ := h2.kind k hk
    exact e k c _ fz hc (.inl rfl) (h2.lt k hk).1
  · obtain ⟨hb, _, c, fz, hc⟩ := h3.kind k hk
    exact e k c _ fz hc (.inr rfl) hb
theorem LoEach.below {w w' : World} {B : Nat} {vals : List LoV} {L : List Au.Lo} (h : LoEach w B vals L) (hb : Below w.heap.size w w') : LoEach w' B vals L := h.keep fun _ _ _ _ hg _ _ => hb.block _ (Array.getElem?_eq_some_iff.1 hg).1
/-- One more, its lists in new blocks. -/
theorem LoEach.snoc {w w' : World} {B : Nat} {vals : List LoV} {L : List Au.Lo} (h : LoEach w B vals L) (hb : Below w.heap.size w w') (hB : B ≤ w.heap.size) {va vf : Value} {s : Au.Lo} (ha : OwnA w' w.heap.size va s.arcs) (hf : OwnZ w' w.heap.size vf s.free) : LoEach w' B (vals ++ [(s.fin, va, vf)]) (L ++ [s]) := by
  have h' := h.below hb
  have hl := h.len
  refine ⟨by simp [hl], fun j a b => ?_, fun i j hi hj hne g hg hgj => ?_⟩
  · by_cases e : j < vals.length
    · rw [List.getElem_append_left e, List.getElem_append_left (by omega)]
      exact h'.each j e (by omega)
    · have e' : j = vals.length := by simp at a; omega
      subst e'
      have e2 : (L ++ [s])[vals.length] = s := by simp only [hl, List.getElem_append_right (Nat.le_refl _), Nat.sub_self, List.getElem_cons_zero]
      rw [e2]
      simp only [List.getElem_append_right (Nat.le_refl _), Nat.sub_self, List.getElem_cons_zero]
      exact ⟨trivial, ownsRow_base ha hB, ownsRow_base hf hB⟩
  · have old : ∀ k (hk : k < vals.length) g, vals[k].2.1.ownBlock = some g → g < w.heap.size := fun k hk g hg => ((h.each k hk (by omega)).2.1.lt g hg).2
    have new : ∀ g, va.ownBlock = some g → w.heap.size ≤ g := fun g hg => (ha.lt g hg).1
    by_cases e1 : i < vals.length
    · rw [List.getElem_append_left e1] at hg
      by_cases e2 : j < vals.length
      · rw [List.getElem_append_left e2] at hgj
        exact h.apart i j e1 e2 hne g hg hgj
      · have e' : j = vals.length := by simp at hj; omega
        subst e'
        simp at hgj
        have := old i e1 g hg
        have := new g hgj
        omega
    · have e' : i = vals.length := by simp at hi; omega
      subst e'
      simp at hg
      have e2 : j < vals.length := by simp at hj; omega
      rw [List.getElem_append_left e2] at hgj
      have := old j e2 g hgj
      have := new g hg
      omega
/-- Loose states of the call's own. -/
structure LoO (w : World) (B : Nat) (v : Value) (vals : List LoV) (L : List Au.Lo) : Prop where
  own : w.ownsRow B 25 3 v L.length (losV vals)
  each : LoEach w B vals L
theorem own_of_rowIs {w : World} {B G n : Nat} {vals : List LoV} (h : w.rowIs G 25 (n * 3) (losCell vals)) (hl : vals.length = n) (hB : B ≤ G) (hn : n ≤ 1000) : w.ownsRow B 25 3 (.slice (some ⟨G, 0, none⟩) n n) n (losV vals) := by
  obtain ⟨c, h1, h2, h3⟩ := h
  refine ⟨by rw [losV_length, hl], .inr ⟨G, n, c, rfl, hB, h1, Nat.le_refl _, by unfold maxLen; omega, h2, ?_⟩⟩
  apply List.ext_getElem?
  intro j
  by_cases hj : j < n * 3
  · rw [List.getElem?_take, if_pos hj, Array.getElem?_toList, h3 j hj, losCell_at vals j (by rw [losV_length, hl]; exact hj)]
  · rw [List.getElem?_eq_none (by rw [List.length_take]; omega), List.getElem?_eq_none (by rw [losV_length, hl]; omega)]
theorem makeLo (n : Nat) (hn : n ≤ 1000) (w : World) :
    (Instr.makeSlice 28 (.int .i64 (n : Int)) (.int .i64 (n : Int))).run Try.prog w = .ok (.slice (some ⟨w.heap.size, 0, none⟩) n n) (w.alloc (.cells (madeCells #[.bool false, .slice none 0 0, .slice none 0 0] (n * 3)) 25)) := by
  obtain ⟨ii, hi, hz0, hz1, hz2⟩ := info_parts Try.infoLo
  have h := run_make (P := Try.prog) w 28 25 ii _ Try.underlying28 hi hz0 .i64 .i64 (n : Int) (n : Int) (by omega) (by omega) (by rw [hz2]; omega) (by omega)
  rw [hz1, Int.toNat_natCast] at h
  exact h
theorem madeLo (w : World) (n : Nat) : (w.alloc (.cells (madeCells #[.bool false, .slice none 0 0, .slice none 0 0] (n * 3)) 25)).rowIs w.heap.size 25 (n * 3) (losCell []) := by
  refine ⟨_, Go.Deep.blk_alloc_new _ _, by rw [size_madeCells], fun i hi => ?_⟩
  have : i % 3 = 0 ∨ i % 3 = 1 ∨ i % 3 = 2 := by omega
  rcases this with h | h | h <;> simp [madeCells, losCell, cell3, h, hi]
end Go.Proofs.Ytpoeklgoepjikaa

/-
  What copyOf answers.
-/
namespace Go.Proofs.Ytpoeklgoepjikaa
open Go.RowKit

set_option maxRecDepth 100000 in
set_option maxHeartbeats 2000000 in
theorem copyOf_any (F : Nat → Prop) (w : World) (v : Value) (L : List Au.Lo) (h : LoS F w v L) (hL : L.length ≤ 1000) (hs : ∀ s ∈ L, s.arcs.length * 24 ≤ 140737488355328 ∧ s.free.length * 8 ≤ 140737488355328) :
    Calls Try.prog 12 #[v] w fun e w' => ∃ v' vals, e = .returned v' ∧ LoO w' w.heap.size v' vals L ∧ Below w.heap.size w w' := by
  obtain ⟨a, cap, rfl, _, hcp, hc⟩ := h
  have HC := Lib.hid hc
  have HS := Lib.hid hs
  obtain ⟨n, hn⟩ : ∃ n, n = L.length := ⟨_, rfl⟩
  have HN := Lib.hid hn
  rw [← hn] at hL ⊢
  have hmk := makeLo n hL
  clear hc hs hn
  go_enter Try.func12, Try.ntmps12
  go_wp2_with fail
  have HR0 : Hid ((w.alloc (.cells (madeCells #[.bool false, .slice none 0 0, .slice none 0 0] (n * 3)) 25)).rowIs w.heap.size 25 (n * 3) (losCell [])) := madeLo w n
  have HB0 : Hid (Below w.heap.size w (w.alloc (.cells (madeCells #[.bool false, .slice none 0 0, .slice none 0 0] (n * 3)) 25))) := (Below.refl _ _).alloc (Nat.le_refl _) _
  obtain ⟨G, hG⟩ : ∃ G, G = w.heap.size := ⟨_, rfl⟩
  have HG : Hid (G = w.heap.size) := hG
  have HGB : Hid (w.heap.size ≤ G) := Nat.le_of_eq hG.symm
  rw [← hG] at HR0
  rw [show (Value.slice (some ⟨w.heap.size, 0, none⟩) n n) = Value.slice (some ⟨G, 0, none⟩) n n by rw [hG]]
  clear hmk hG
  generalize w.alloc (.cells (madeCells #[.bool false, .slice none 0 0, .slice none 0 0] (n * 3)) 25) = w1 at *
  go_loopg [11] n (fun g i wx => ∃ (k : Nat) (vals : List LoV), k ≤ n ∧ g = n - k ∧ i = .int .i64 k ∧ Hid (wx.rowIs G 25 (n * 3) (losCell vals)) ∧ Hid (LoEach wx w.heap.size vals (L.take k)) ∧ Hid (Below w.heap.size w wx))
  case atStart => exact ⟨0, [], Nat.zero_le _, rfl, rfl, HR0, LoEach.nil _ _, HB0⟩
  case round =>
    obtain ⟨k, vals, hk, rfl, rfl, hrow, heach, hbel⟩ := hrel
    by_cases hkn : k < n
    · have i1 : (k : Int) < (n : Int) := by omega
      have hkL : k < L.length := by rw [← HN.out]; exact hkn
      obtain ⟨gs, o, rfl, hgs, _, hcell⟩ := HC.out (by omega)
      obtain ⟨t1, ⟨va, t2, t3⟩, vf, t4, t5⟩ := hcell k hkL
      have hb := hbel.out
      have c1 : wr.cell? ⟨gs, o + k * 3, none⟩ = some (.bool L[k].fin) := (hb.cell (p := ⟨gs, o + k * 3, none⟩) hgs).trans t1
      have c2 : wr.cell? ⟨gs, o + k * 3 + 1, none⟩ = some va := (hb.cell (p := ⟨gs, o + k * 3 + 1, none⟩) hgs).trans t2
      have c3 : wr.cell? ⟨gs, o + k * 3 + 2, none⟩ = some vf := (hb.cell (p := ⟨gs, o + k * 3 + 2, none⟩) hgs).trans t4
      have HS1 := Lib.hid (HS.out L[k] (List.getElem_mem hkL))
      have hvl : vals.length = k := by
        have := heach.out.len
        rw [List.length_take] at this
        omega
      have HVL := Lib.hid hvl
      have HTK : Hid (L.take (k + 1) = L.take k ++ [L[k]]) := List.take_succ_eq_append_getElem hkL
      have HA3 : Hid (ArcS F wr va L[k].arcs) := t3.keep hb.size fun g _ hg => hb.block g hg
      have HF3 : Hid (NumS F wr vf L[k].free) := t5.keep hb.size fun g _ hg => hb.block g hg
      clear hcell t1 t2 t3 t4 t5 hvl hb
      generalize L[k] = s at *
      obtain ⟨fin, arcs, free⟩ := s
      dsimp only at *
      obtain ⟨aa, ca, hva⟩ : ∃ aa ca, va = .slice aa arcs.length ca := by
        obtain ⟨aa, ca, h1, _⟩ := HA3.out
        exact ⟨aa, ca, h1⟩
      obtain ⟨af, cf, hvf⟩ : ∃ af cf, vf = .slice af free.length cf := by
        obtain ⟨af, cf, h1, _⟩ := HF3.out
        exact ⟨af, cf, h1⟩
      subst hva hvf
      obtain ⟨na, hna⟩ : ∃ na, na = arcs.length := ⟨_, rfl⟩
      obtain ⟨nf, hnf⟩ : ∃ nf, nf = free.length := ⟨_, rfl⟩
      rw [← hna] at c2 HA3
      rw [← hnf] at c3 HF3
      clear hna hnf
      have HAL : Hid (∀ o, LoEach (wr.alloc o) w.heap.size vals (L.take k)) := fun o => heach.out.below ((Below.refl _ _).alloc (Nat.le_refl _) _)
      have HNW : Hid (wr.heap.size < (wr.alloc (.cells #[.bool fin, .slice aa na ca, .slice af nf cf] 25)).heap.size) := by show _ < _; simp
      have HBK : Hid ((wr.alloc (.cells #[.bool fin, .slice aa na ca, .slice af nf cf] 25)).heap[wr.heap.size]? = some (.cells #[.bool fin, .slice aa na ca, .slice af nf cf] 25 (0, 0))) := Go.Deep.blk_alloc_new _ _
      have HBL : Hid (Below w.heap.size w (wr.alloc (.cells #[.bool fin, .slice aa na ca, .slice af nf cf] 25))) := hbel.out.alloc hbel.out.size _
      have HRW : Hid ((wr.alloc (.cells #[.bool fin, .slice aa na ca, .slice af nf cf] 25)).rowIs G 25 (n * 3) (losCell vals)) := hrow.out.alloc _
      have HE5 := Lib.hid (HAL.out (.cells #[.bool fin, .slice aa na ca, .slice af nf cf] 25))
      have HA5 : Hid (ArcS F (wr.alloc (.cells #[.bool fin, .slice aa na ca, .slice af nf cf] 25)) (.slice aa na ca) arcs) := HA3.out.keep (by simp) fun g _ hg => Go.Deep.blk_alloc_lt _ _ _ hg
      have HF5 : Hid (NumS F (wr.alloc (.cells #[.bool fin, .slice aa na ca, .slice af nf cf] 25)) (.slice af nf cf) free) := HF3.out.keep (by simp) fun g _ hg => Go.Deep.blk_alloc_lt _ _ _ hg
      have HGL : Hid (G < wr.heap.size) := hrow.out.lt
      go_wp2_with fail
      clear c1 c2 c3 HAL HA3 HF3
      obtain ⟨b5, hb5⟩ : ∃ b, b = wr.heap.size := ⟨_, rfl⟩
      rw [← hb5] at HNW HBK HGL ⊢
      clear hb5
      generalize wr.alloc (.cells #[.bool fin, .slice aa na ca, .slice af nf cf] 25) = w5 at *
      have HCA : Hid (∀ W, Below w5.heap.size w5 W → Calls Try.prog 28 #[.slice aa na ca] W fun e w' => ∃ a6 m6 c6, e = .returned (.slice a6 m6 c6) ∧ OwnA w' W.heap.size (.slice a6 m6 c6) arcs ∧ Below W.heap.size W w') := fun W hb => (cloneA_any W _ arcs F (HA5.out.keep hb.size fun g _ hg => hb.block g hg) HS1.out.1).mono fun e w' ⟨v', h1, h2, h3⟩ => by
        obtain ⟨a6, c6, h4, _⟩ := h2.opened
        subst h4
        exact ⟨a6, _, c6, h1, h2, h3⟩
      have HCZ : Hid (∀ W, Below w5.heap.size w5 W → Calls Try.prog 29 #[.slice af nf cf] W fun e w' => ∃ a7 m7 c7, e = .returned (.slice a7 m7 c7) ∧ OwnZ w' W.heap.size (.slice a7 m7 c7) free ∧ Below W.heap.size W w') := fun W hb => (cloneZ_any W _ free F (HF5.out.keep hb.size fun g _ hg => hb.block g hg) HS1.out.2).mono fun e w' ⟨v', h1, h2, h3⟩ => by
        obtain ⟨a7, c7, h4, _⟩ := h2.nums (fun _ => True) fun _ _ => trivial
        subst h4
        exact ⟨a7, _, c7, h1, h2, h3⟩
      have hK0 : ∀ W : World, W.heap[b5]? = w5.heap[b5]? → W.cell? ⟨b5, 0, none⟩ = some (.bool fin) ∧ W.cell? ⟨b5, 1, none⟩ = some (.slice aa na ca) ∧ W.cell? ⟨b5, 2, none⟩ = some (.slice af nf cf) := fun W e => by
        rw [HBK.out] at e
        exact ⟨by simp [World.cell?, e], by simp [World.cell?, e], by simp [World.cell?, e]⟩
      have HK : Hid (∀ W, Below w5.heap.size w5 W → W.cell? ⟨b5, 0, none⟩ = some (.bool fin) ∧ W.cell? ⟨b5, 1, none⟩ = some (.slice aa na ca) ∧ W.cell? ⟨b5, 2, none⟩ = some (.slice af nf cf)) := fun W hb => hK0 W (hb.block b5 HNW.out)
      have HKS : Hid (∀ W u1 u2 u3, Below w5.heap.size w5 W → (((W.setCell ⟨G, k * 3, none⟩ u1).setCell ⟨G, k * 3 + 1, none⟩ u2).setCell ⟨G, k * 3 + 2, none⟩ u3).cell? ⟨b5, 0, none⟩ = some (.bool fin) ∧ (((W.setCell ⟨G, k * 3, none⟩ u1).setCell ⟨G, k * 3 + 1, none⟩ u2).setCell ⟨G, k * 3 + 2, none⟩ u3).cell? ⟨b5, 1, none⟩ = some (.slice aa na ca) ∧ (((W.setCell ⟨G, k * 3, none⟩ u1).setCell ⟨G, k * 3 + 1, none⟩ u2).setCell ⟨G, k * 3 + 2, none⟩ u3).cell? ⟨b5, 2, none⟩ = some (.slice af nf cf)) := fun W u1 u2 u3 hb => hK0 _ (by
        have hne : b5 ≠ G := by have := HGL.out; omega
        rw [Go.Deep.blk_setCell_other _ _ _ _ hne, Go.Deep.blk_setCell_other _ _ _ _ hne, Go.Deep.blk_setCell_other _ _ _ _ hne]
        exact hb.block b5 HNW.out)
      have HRX : Hid (∀ W, Below w5.heap.size w5 W → W.rowIs G 25 (n * 3) (losCell vals)) := fun W hb => HRW.out.of_block (hb.block G HRW.out.lt)
      have hq0 : Below w5.heap.size w5 w5.drew := (Below.refl _ _).drew
      clear hK0
      go_region_held3 (fun W => W.cell? ⟨b5, 0, none⟩ = some (.bool fin) ∧ W.cell? ⟨b5, 1, none⟩ = some (.slice aa na ca) ∧ W.cell? ⟨b5, 2, none⟩ = some (.slice af nf cf)) (first | exact HK.out _ (by assumption) | exact HKS.out _ _ _ _ (by assumption)) (first | (go_at_call 28; refine (HCA.out _ (by assumption)).mono ?_; rintro e w6 ⟨a6, m6, c6, rfl, ho6, hb6⟩; have HO6 := Lib.hid ho6; have HB6 := Lib.hid hb6; have hq6 : Below w5.heap.size w5 w6 := hq0.trans hb6; clear ho6 hb6) | (go_at_call 29; refine (HCZ.out _ (by assumption)).mono ?_; rintro e w7 ⟨a7, m7, c7, rfl, ho7, hb7⟩; have HO7 := Lib.hid ho7; have HB7 := Lib.hid hb7; have hq7 : Below w5.heap.size w5 w7 := hq6.trans (hb7.mono hq6.size); have HR7 := Lib.hid (HRX.out w7 hq7); have y1 := HR7.out.cell (i := k * 3) (by omega); have y2 := HR7.out.cell (i := k * 3 + 1) (by omega); have y3 := HR7.out.cell (i := k * 3 + 2) (by omega); have z1 := HR7.out.frozen (k * 3); have z2 := HR7.out.frozen (k * 3 + 1); have z3 := HR7.out.frozen (k * 3 + 2); clear ho7 hb7))
      clear y1 y2 y3 z1 z2 z3
      have HA7 : Hid (OwnA w7 w5.heap.size (.slice a6 m6 c6) arcs) := by
        have h6 : OwnA w6 w5.heap.size (.slice a6 m6 c6) arcs := HO6.out
        exact h6.keep fun g hg => HB7.out.block g (h6.lt g hg).2
      have HZ7 : Hid (OwnZ w7 w5.heap.size (.slice a7 m7 c7) free) := ownsRow_base HO7.out (by have := hq6.size; exact this)
      have HE7 : Hid (LoEach w7 w.heap.size (vals ++ [(fin, .slice a6 m6 c6, .slice a7 m7 c7)]) (L.take (k + 1))) := by
        show LoEach _ _ _ _
        rw [HTK.out]
        exact HE5.out.snoc hq7 HBL.out.size (s := ⟨fin, arcs, free⟩) HA7.out HZ7.out
      have far : ∀ g, g ≠ G → (((w7.setCell ⟨G, k * 3, none⟩ (.bool fin)).setCell ⟨G, k * 3 + 1, none⟩ (.slice a6 m6 c6)).setCell ⟨G, k * 3 + 2, none⟩ (.slice a7 m7 c7)).heap[g]? = w7.heap[g]? := fun g hg => by
        rw [Go.Deep.blk_setCell_other _ _ _ _ hg, Go.Deep.blk_setCell_other _ _ _ _ hg, Go.Deep.blk_setCell_other _ _ _ _ hg]
      have R8 : Hid ((((w7.setCell ⟨G, k * 3, none⟩ (.bool fin)).setCell ⟨G, k * 3 + 1, none⟩ (.slice a6 m6 c6)).setCell ⟨G, k * 3 + 2, none⟩ (.slice a7 m7 c7)).rowIs G 25 (n * 3) (losCell (vals ++ [(fin, .slice a6 m6 c6, .slice a7 m7 c7)]))) :=
        (((HR7.out.set (k * 3) (.bool fin)).set (k * 3 + 1) (.slice a6 m6 c6)).set (k * 3 + 2) (.slice a7 m7 c7)).congr fun j _ => by
          have := losCell_snoc vals (fin, .slice a6 m6 c6, .slice a7 m7 c7) j
          rw [HVL.out] at this
          exact this
      have E8 : Hid (LoEach (((w7.setCell ⟨G, k * 3, none⟩ (.bool fin)).setCell ⟨G, k * 3 + 1, none⟩ (.slice a6 m6 c6)).setCell ⟨G, k * 3 + 2, none⟩ (.slice a7 m7 c7)) w.heap.size (vals ++ [(fin, .slice a6 m6 c6, .slice a7 m7 c7)]) (L.take (k + 1))) :=
        HE7.out.keep fun g c t fz hg ht _ => far g (by
          rintro rfl
          obtain ⟨c', hc', _⟩ := id HR7.out
          rw [hg] at hc'
          injection hc' with hc'
          injection hc' with _ h2
          rcases ht with rfl | rfl <;> exact absurd h2 (by decide))
      have B8 : Hid (Below w.heap.size w (((w7.setCell ⟨G, k * 3, none⟩ (.bool fin)).setCell ⟨G, k * 3 + 1, none⟩ (.slice a6 m6 c6)).setCell ⟨G, k * 3 + 2, none⟩ (.slice a7 m7 c7))) :=
        (((HBL.out.trans (hq7.mono HBL.out.size)).setCell HGB.out _).setCell HGB.out _).setCell HGB.out _
      clear far hq0 hq6 hq7
      generalize (((w7.setCell ⟨G, k * 3, none⟩ (.bool fin)).setCell ⟨G, k * 3 + 1, none⟩ (.slice a6 m6 c6)).setCell ⟨G, k * 3 + 2, none⟩ (.slice a7 m7 c7)) = w8 at *
      go_wp2_with fail
      go_roundg (n - (k + 1))
      case rel => exact ⟨k + 1, _, by omega, rfl, by go_num, R8, E8, B8⟩
      case measure => omega
    · obtain rfl : k = n := by omega
      have e : L.take k = L := List.take_of_length_le (by rw [← HN.out]; exact Nat.le_refl _)
      rw [e] at heach
      clear e
      go_wp2_with fail
      go_ret
      refine ⟨_, vals, rfl, ⟨?_, heach.out⟩, hbel.out⟩
      rw [← HN.out]
      exact own_of_rowIs hrow.out (by rw [heach.out.len, HN.out]) HGB.out hL
end Go.Proofs.Ytpoeklgoepjikaa

/-
  What Encode answers, the program's and the document's own: the bytes of all characters, or the refusal.
-/
namespace Go.Proofs.Ytpoeklgoepjikaa
open Go.RowKit

namespace Ut
/-- The bytes of characters, where all are. -/
def encS (l : List Int) : List UInt8 := if allW l = true then enc l else []
def encE (l : List Int) : Int := if allW l = true then 0 else 1
theorem encS_yes {l : List Int} (h : allW l = true) : encS l = enc l := if_pos h
theorem encE_yes {l : List Int} (h : allW l = true) : encE l = 0 := if_pos h
theorem encS_no {l : List Int} (h : allW l = false) : encS l = [] := if_neg (by rw [h]; exact Bool.false_ne_true)
theorem encE_no {l : List Int} (h : allW l = false) : encE l = 1 := if_neg (by rw [h]; exact Bool.false_ne_true)
theorem allW_step {l : List Int} {k : Nat} (h : k < l.length) : allW (l.take (k + 1)) = (allW (l.take k) && whole l[k]) := by
  rw [List.take_succ_eq_append_getElem h, allW_append]
  simp [allW]
theorem enc_step {l : List Int} {k : Nat} (h : k < l.length) : enc (l.take (k + 1)) = enc (l.take k) ++ Lib.encodeRune l[k] := by
  rw [List.take_succ_eq_append_getElem h, enc_snoc]
theorem allW_not {l : List Int} {k : Nat} (h : k < l.length) (hk : whole l[k] = false) : allW l = false := by
  rw [← Bool.not_eq_true, allW_iff]
  intro ha
  have := ha l[k] (List.getElem_mem h)
  rw [hk] at this
  cases this
theorem bytes_rune (c : Int) : bytesV5 (Lib.encodeRune c) = Lib.runeCells c := by
  unfold bytesV5 Lib.encodeRune Lib.runeCells
  rw [List.map_map]
  refine List.map_congr_left fun x hx => ?_
  have hb := Lib.encodeRuneZ_byte c x hx
  show Value.int .u8 (((x.toNat.toUInt8).toNat : Nat) : Int) = _
  rw [byteI x hb.1 hb.2]
end Ut

theorem ret_si {s1 s2 : ByteArray} {a b : Int} (h1 : s1 = s2) (h2 : a = b) : Ending.returned (.tuple #[.string s1, .int .i64 a]) = Ending.returned (.tuple #[.string s2, .int .i64 b]) := by rw [h1, h2]
theorem madeB_own (w : World) (B n : Nat) (hB : B ≤ w.heap.size) (hn : n ≤ 1099511627776 * 16) :
    OwnB5 (w.alloc (.cells (madeCells #[.int .u8 0] n) 5)) B (.slice (some ⟨w.heap.size, 0, none⟩) 0 n) [] :=
  World.ownsRow_made w (madeCells #[.int .u8 0] n) n hB (by unfold maxLen; omega) (by rw [size_madeCells, Nat.mul_one])
theorem makeB (n : Nat) (hn : n ≤ 17592186044416) (w : World) :
    (Instr.makeSlice 98 (.int .i64 0) (.int .i64 (n : Int))).run Try.prog w = .ok (.slice (some ⟨w.heap.size, 0, none⟩) 0 n) (w.alloc (.cells (madeCells #[.int .u8 0] n) 5)) := by
  obtain ⟨ii, hi, hz0, hz1, hz2⟩ := info_parts Try.infoB5
  have h := run_make (P := Try.prog) w 98 5 ii (.int .u8 0) Try.underlying98 hi hz0 .i64 .i64 0 (n : Int) (by omega) (by omega) (by rw [hz2]; omega) (by omega)
  rw [hz1, Int.toNat_natCast, Nat.mul_one] at h
  exact h

/-- AppendRune, onto bytes of the call's own. -/
theorem appendRune_any (w : World) (B : Nat) (hB : B ≤ w.heap.size) (v : Value) (l : List UInt8) (c : Int) (h : OwnB5 w B v l) (hc : 0 ≤ c ∧ c ≤ 1114111) (hl : l.length + 4 ≤ 140737488355328) :
    Calls Try.prog 61 #[v, .int .i32 c] w fun e w' => ∃ v', e = .returned v' ∧ OwnB5 w' B v' (l ++ Lib.encodeRune c) ∧ Below B w w' := by
  have hown : w.ownsRow B 5 1 v l.length (bytesV5 l) := h
  refine (Try.utf8_AppendRune_plain B v l.length (bytesV5 l) c (by omega) (by omega) w hown hl hB).mono ?_
  rintro e w' ⟨v', rfl, h1, o, h2⟩
  refine ⟨v', rfl, ?_, ((Below.refl B w).alloc hB o).grown h2 (by simp; omega) (fun j hj => (hown.lt j hj).1)⟩
  have hr : (Lib.runeCells c).length = (Lib.encodeRune c).length := by rw [← Ut.bytes_rune, bytesV_length5]
  unfold OwnB5
  rw [List.length_append, ← hr]
  have e : bytesV5 (l ++ Lib.encodeRune c) = bytesV5 l ++ Lib.runeCells c := by rw [← Ut.bytes_rune]; simp [bytesV5]
  rw [e]
  exact h1

/-- What Encode answers. -/
def EncPost (w : World) (l : List Int) (e : Ending) (w' : World) : Prop :=
  e = .returned (.tuple #[.string ⟨(Ut.encS l).toArray⟩, .int .i64 (Ut.encE l)]) ∧ Below w.heap.size w w'

set_option maxRecDepth 100000 in
set_option maxHeartbeats 2000000 in
theorem encode_any (w : World) (v : Value) (xs : List Int) (hv : IntS w v xs) (hx : xs.length ≤ 17592186044416) :
    Calls Try.prog 48 #[v] w (EncPost w xs) := by
  obtain ⟨a, cap, rfl, _, _, hv⟩ := hv
  have HV := Lib.hid hv
  clear hv
  obtain ⟨n, hn⟩ : ∃ n, n = xs.length := ⟨_, rfl⟩
  have HN := Lib.hid hn
  rw [← hn] at hx ⊢
  clear hn
  have hmk := makeB n hx
  go_enter Try.func48, Try.ntmps48
  go_wp2_with fail
  have HO : Hid (OwnB5 (w.alloc (.cells (madeCells #[.int .u8 0] n) 5)) w.heap.size (.slice (some ⟨w.heap.size, 0, none⟩) 0 n) []) := madeB_own w w.heap.size n (Nat.le_refl _) (by omega)
  have HB : Hid (Below w.heap.size w (w.alloc (.cells (madeCells #[.int .u8 0] n) 5))) := (Below.refl _ _).alloc (Nat.le_refl _) _
  generalize w.alloc (.cells (madeCells #[.int .u8 0] n) 5) = w1 at *
  clear hmk
  go_loopg [4, 12] n (fun g o i wx => ∃ k : Nat, k ≤ n ∧ g = n - k ∧ i = .int .i64 k ∧ Hid (Ut.allW (xs.take k) = true) ∧ OwnB5 wx w.heap.size o (Ut.enc (xs.take k)) ∧ Below w.heap.size w wx)
  case atStart => exact ⟨0, Nat.zero_le _, rfl, rfl, rfl, HO.out, HB.out⟩
  case round =>
    obtain ⟨k, hk, rfl, rfl, hA, hown, hbel⟩ := hrel
    by_cases hkn : k < n
    · have i1 : (k : Int) < (n : Int) := by omega
      have kx : k < xs.length := by rw [← HN.out]; exact hkn
      obtain ⟨g, o, rfl, hg, hcu⟩ := HV.out (by omega)
      have c1 : wr.cell? ⟨g, o + k, none⟩ = some (.int .i64 xs[k]) := (hbel.cell (p := ⟨g, o + k, none⟩) hg).trans (hcu k kx)
      have hs1 := Ut.allW_step kx
      have hs2 := Ut.enc_step kx
      have hs3 := @Ut.allW_not xs k kx
      have hl4 : (Ut.enc (xs.take k)).length + 4 ≤ 140737488355328 := by
        have := (Ut.enc_length (xs.take k)).2
        have h2 : (xs.take k).length ≤ k := List.length_take_le _ _
        omega
      have hw := Lib.hid (whole_any xs[k] wr)
      have har := Lib.hid (fun (hc : 0 ≤ xs[k] ∧ xs[k] ≤ 1114111) => appendRune_any wr w.heap.size hbel.size _ _ xs[k] hown hc hl4)
      have hwi := @Ut.whole_iff xs[k]
      rw [← hs2] at har
      clear hcu hs2 hl4
      generalize xs[k] = c at *
      cases hwc : Ut.whole c
      · rw [hwc] at hw
        have hno := Lib.hid (hs3 hwc)
        have HBE := Lib.hid hbel
        clear hs1 hs3 hwi hown hbel har hA
        go_wp2_with fail
        refine hw.out.mono ?_
        rintro e w2 ⟨rfl, rfl⟩
        go_wp2_with fail
        go_ret2
        exact ⟨ret_si (by rw [Ut.encS_no hno.out]) (by rw [Ut.encE_no hno.out]), HBE.out⟩
      · rw [hwc] at hw hs1
        have hc := hwi.1 hwc
        have hA2 : Hid (Ut.allW (xs.take (k + 1)) = true) := by show _ = _; rw [hs1, hA.out]; rfl
        have har2 := Lib.hid (har.out (by omega))
        have HBE := Lib.hid hbel
        clear hs1 hs3 hwi hown hbel har hA
        go_wp2_with fail
        refine hw.out.mono ?_
        rintro e w2 ⟨rfl, rfl⟩
        go_wp2_with fail
        refine har2.out.mono ?_
        rintro e w2 ⟨v2, rfl, hown2, hb2⟩
        have HO2 := Lib.hid hown2
        have HB2 : Hid (Below w.heap.size w w2) := HBE.out.trans hb2
        clear hown2 hb2
        go_wp2_with fail
        go_roundg (n - (k + 1))
        case rel => exact ⟨k + 1, by omega, rfl, by go_num, hA2, HO2.out, HB2.out⟩
        case measure => omega
    · obtain rfl : k = n := by omega
      have hcv := own_conv5 hown
      have hfull : xs.take k = xs := List.take_of_length_le (by rw [← HN.out]; exact Nat.le_refl _)
      rw [hfull] at hcv hA
      have HBE := Lib.hid hbel
      clear hown hbel hfull
      obtain ⟨S, hS⟩ : ∃ S, S = Ut.enc xs := ⟨_, rfl⟩
      have HS := Lib.hid hS
      rw [← hS] at hcv
      clear hS
      go_wp2_with fail
      go_ret2
      exact ⟨ret_si (by rw [HS.out, Ut.encS_yes hA.out]) (by rw [Ut.encE_yes hA.out]), HBE.out⟩
end Go.Proofs.Ytpoeklgoepjikaa

/-
  What rowOf answers: a row in a new block.
-/
namespace Go.Proofs.Ytpoeklgoepjikaa
open Go.RowKit

namespace Sp
/-- The cell j of a row. -/
def cellAt (r : List (Int × Int)) (j : Nat) : Int := if j % 2 = 0 then (r.getD (j / 2) (0, 0)).1 else (r.getD (j / 2) (0, 0)).2
theorem cellAt_lo (r : List (Int × Int)) (k : Nat) (h : k < r.length) : cellAt r (k * 2) = r[k].1 := by
  unfold cellAt
  rw [if_pos (by omega), show k * 2 / 2 = k by omega]
  simp [List.getD, h]
theorem cellAt_hi (r : List (Int × Int)) (k : Nat) (h : k < r.length) : cellAt r (k * 2 + 1) = r[k].2 := by
  unfold cellAt
  rw [if_neg (by omega), show (k * 2 + 1) / 2 = k by omega]
  simp [List.getD, h]
/-- The cell j of a row of which k ranges are told. -/
def cellUpto (r : List (Int × Int)) (k j : Nat) : Int := if j < k * 2 then cellAt r j else 0
theorem cellUpto_set (r : List (Int × Int)) (k : Nat) (h : k < r.length) (j : Nat) : (if j = k * 2 + 1 then Value.int .i64 r[k].2 else if j = k * 2 then Value.int .i64 r[k].1 else .int .i64 (cellUpto r k j)) = .int .i64 (cellUpto r (k + 1) j) := by
  have h1 := cellAt_lo r k h
  have h2 := cellAt_hi r k h
  unfold cellUpto
  by_cases e1 : j = k * 2 + 1
  · subst e1
    rw [if_pos rfl, if_pos (by omega), h2]
  · rw [if_neg e1]
    by_cases e2 : j = k * 2
    · subst e2
      rw [if_pos rfl, if_pos (by omega), h1]
    · rw [if_neg e2]
      by_cases e3 : j < k * 2
      · rw [if_pos e3, if_pos (by omega)]
      · rw [if_neg e3, if_neg (by omega)]
theorem good_whole {f l : Int} {tails t : Nat} {a b : Int} (hk : InCut f l tails) (h : Good f l tails t a b) : Ut.whole a = true ∧ Ut.whole b = true ∧ (Lib.encodeRuneZ a).length = tails + 1 ∧ (Lib.encodeRuneZ b).length = tails + 1 := by
  have h1 := h.lo
  have h2 := h.hi
  have h3 := h.le
  rw [Ut.whole_iff, Ut.whole_iff]
  cases hk
  · rw [Lib.encodeRuneZ_one (by omega) (by omega), Lib.encodeRuneZ_one (by omega) (by omega)]
    exact ⟨by omega, by omega, rfl, rfl⟩
  · rw [Lib.encodeRuneZ_two (by omega) (by omega), Lib.encodeRuneZ_two (by omega) (by omega)]
    exact ⟨by omega, by omega, rfl, rfl⟩
  · rw [Lib.encodeRuneZ_three (by omega), Lib.encodeRuneZ_three (by omega)]
    exact ⟨by omega, by omega, rfl, rfl⟩
  · rw [Lib.encodeRuneZ_three (by omega), Lib.encodeRuneZ_three (by omega)]
    exact ⟨by omega, by omega, rfl, rfl⟩
  · rw [Lib.encodeRuneZ_four (by omega) (by omega), Lib.encodeRuneZ_four (by omega) (by omega)]
    exact ⟨by omega, by omega, rfl, rfl⟩
/-- The text of one character. -/
def txt (c : Int) : ByteArray := ⟨(Ut.encS [c]).toArray⟩
theorem encS_one {c : Int} (h : Ut.whole c = true) : Ut.encS [c] = Lib.encodeRune c := by
  rw [Ut.encS_yes (by simp [Ut.allW, h])]
  simp [Ut.enc]
theorem txt_size {c : Int} (h : Ut.whole c = true) : (txt c).size = (Lib.encodeRuneZ c).length := by
  show (Ut.encS [c]).toArray.size = _
  rw [encS_one h, List.size_toArray]
  unfold Lib.encodeRune
  rw [List.length_map]
theorem txt_at {c : Int} (h : Ut.whole c = true) (k : Nat) (hk : k < (txt c).size) (hk2 : k < (Lib.encodeRuneZ c).length) : (((txt c)[k]).toNat : Int) = (Lib.encodeRuneZ c)[k] := by
  have hb := Lib.encodeRuneZ_byte c _ (List.getElem_mem hk2)
  have e : (txt c)[k] = ((Lib.encodeRuneZ c)[k]).toNat.toUInt8 := by
    have : (txt c)[k] = (Ut.encS [c])[k]'(by have : (txt c).size = (Ut.encS [c]).length := List.size_toArray; omega) := rfl
    rw [this]
    simp only [encS_one h]
    unfold Lib.encodeRune
    rw [List.getElem_map]
  rw [e]
  exact Ut.byteI _ hb.1 hb.2
end Sp
theorem Try.infoR : (Try.prog.info? 42).map (fun i => (i.zero, i.size, i.bytes)) = some (some (.agg #[.int .i64 0, .int .i64 0]), 2, 16) := by kernel_rfl
/-- The block g is this row. -/
def RowG (w : World) (g : Nat) (r : List (Int × Int)) : Prop := w.rowIs g 42 (r.length * 2) (fun j => .int .i64 (Sp.cellAt r j))
theorem makeR (n : Nat) (hn : n ≤ 1000) (w : World) :
    (Instr.makeSlice 40 (.int .i64 (n : Int)) (.int .i64 (n : Int))).run Try.prog w = .ok (.slice (some ⟨w.heap.size, 0, none⟩) n n) (w.alloc (.cells (madeCells #[.int .i64 0, .int .i64 0] (n * 2)) 42)) := by
  obtain ⟨ii, hi, hz0, hz1, hz2⟩ := info_parts Try.infoR
  have h := run_make (P := Try.prog) w 40 42 ii _ Try.underlying40 hi hz0 .i64 .i64 (n : Int) (n : Int) (by omega) (by omega) (by rw [hz2]; omega) (by omega)
  rw [hz1, Int.toNat_natCast] at h
  exact h
theorem madeR (w : World) (n : Nat) (r : List (Int × Int)) : (w.alloc (.cells (madeCells #[.int .i64 0, .int .i64 0] (n * 2)) 42)).rowIs w.heap.size 42 (n * 2) (fun j => .int .i64 (Sp.cellUpto r 0 j)) := by
  refine ⟨_, Go.Deep.blk_alloc_new _ _, by rw [size_madeCells], fun i hi => ?_⟩
  have : i % 2 = 0 ∨ i % 2 = 1 := by omega
  rcases this with h | h <;> simp [madeCells, Sp.cellUpto, h, hi]

set_option maxRecDepth 100000 in
set_option maxHeartbeats 2000000 in
theorem rowOf_any (a b f l : Int) (tails t : Nat) (hk : Sp.InCut f l tails) (hgd : Sp.Good f l tails t a b) (w : World) :
    Calls Try.prog 27 #[.int .i64 a, .int .i64 b] w fun e w' => ∃ g, e = .returned (.slice (some ⟨g, 0, none⟩) (tails + 1) (tails + 1)) ∧ w.heap.size ≤ g ∧ RowG w' g (Sp.rowOf (a, b)) ∧ Below w.heap.size w w' := by
  obtain ⟨ha, hb, la, lb⟩ := Sp.good_whole hk hgd
  obtain ⟨h3, _⟩ := Sp.cut_small hk
  have sa := Sp.txt_size ha
  have sb := Sp.txt_size hb
  have lr : (Sp.rowOf (a, b)).length = tails + 1 := by unfold Sp.rowOf; rw [List.length_zip, la, lb]; simp
  have hat : ∀ k (h1 : k < (Sp.txt a).size) (h2 : k < (Sp.rowOf (a, b)).length), (((Sp.txt a)[k]).toNat : Int) = (Sp.rowOf (a, b))[k].1 := fun k h1 h2 => by
    rw [Sp.txt_at ha k h1 (by omega)]
    simp [Sp.rowOf]
  have hbt : ∀ k (h1 : k < (Sp.txt b).size) (h2 : k < (Sp.rowOf (a, b)).length), (((Sp.txt b)[k]).toNat : Int) = (Sp.rowOf (a, b))[k].2 := fun k h1 h2 => by
    rw [Sp.txt_at hb k h1 (by omega)]
    simp [Sp.rowOf]
  rw [la] at sa
  rw [lb] at sb
  have H1 : Hid (∀ w : World, Calls Try.prog 48 #[.slice (some ⟨w.heap.size, 0, none⟩) 1 1] (w.alloc (.cells #[.int .i64 a] 3)) fun e w' => e = .returned (.tuple #[.string (Sp.txt a), .int .i64 (Ut.encE [a])]) ∧ Below (w.alloc (.cells #[.int .i64 a] 3)).heap.size (w.alloc (.cells #[.int .i64 a] 3)) w') := fun w => encode_any _ _ [a] (ints_lit w [a] (by simp)) (by simp)
  have H2 : Hid (∀ w : World, Calls Try.prog 48 #[.slice (some ⟨w.heap.size, 0, none⟩) 1 1] (w.alloc (.cells #[.int .i64 b] 3)) fun e w' => e = .returned (.tuple #[.string (Sp.txt b), .int .i64 (Ut.encE [b])]) ∧ Below (w.alloc (.cells #[.int .i64 b] 3)).heap.size (w.alloc (.cells #[.int .i64 b] 3)) w') := fun w => encode_any _ _ [b] (ints_lit w [b] (by simp)) (by simp)
  have HAT := Lib.hid hat
  have HBT := Lib.hid hbt
  have HSA := Lib.hid sa
  have HSB := Lib.hid sb
  have HLR := Lib.hid lr
  generalize Sp.rowOf (a, b) = r at *
  generalize Sp.txt a = s1 at *
  generalize Sp.txt b = s2 at *
  generalize Ut.encE [a] = e1 at *
  generalize Ut.encE [b] = e2 at *
  obtain ⟨n, hn⟩ : ∃ n, n = tails + 1 := ⟨_, rfl⟩
  have hn4 : n ≤ 4 := by omega
  rw [← hn] at sa sb ⊢
  have HN := Lib.hid hn
  clear hat hbt lr hgd hk ha hb la lb hn h3
  have hmk := makeR n (by omega)
  go_enter Try.func27, Try.ntmps27
  go_wp2_with fail
  refine (H1.out w).mono ?_
  rintro e w1 ⟨rfl, hb1⟩
  have HB1 : Hid (Below w.heap.size w w1) := ((Below.refl _ _).alloc (Nat.le_refl _) _).trans (hb1.mono (by simp))
  clear hb1
  go_wp2_with fail
  refine (H2.out w1).mono ?_
  rintro e w2 ⟨rfl, hb2⟩
  have HB2 : Hid (Below w.heap.size w w2) := HB1.out.trans (((Below.refl _ _).alloc (Nat.le_refl _) _).trans (hb2.mono (by simp)) |>.mono HB1.out.size)
  clear hb2 HB1
  go_wp2_with fail
  have hst : Hid ((w2.alloc (.cells (madeCells #[.int .i64 0, .int .i64 0] (n * 2)) 42)).rowIs w2.heap.size 42 (n * 2) (fun j => .int .i64 (Sp.cellUpto r 0 j))) := madeR w2 n r
  have HB3 : Hid (Below w.heap.size w (w2.alloc (.cells (madeCells #[.int .i64 0, .int .i64 0] (n * 2)) 42))) := HB2.out.alloc HB2.out.size _
  obtain ⟨G, hG⟩ : ∃ G, G = w2.heap.size := ⟨_, rfl⟩
  have HG : Hid (w.heap.size ≤ G) := by show _ ≤ _; rw [hG]; exact HB2.out.size
  rw [← hG] at hst ⊢
  clear hG hmk
  generalize w2.alloc (.cells (madeCells #[.int .i64 0, .int .i64 0] (n * 2)) 42) = w3 at *
  go_loopg [28] n (fun g i wx => ∃ k : Nat, k ≤ n ∧ g = n - k ∧ i = .int .i64 k ∧ Hid (wx.rowIs G 42 (n * 2) (fun j => .int .i64 (Sp.cellUpto r k j))) ∧ Hid (Below w.heap.size w wx))
  case atStart => exact ⟨0, Nat.zero_le _, rfl, rfl, hst, HB3⟩
  case round =>
    obtain ⟨k, hkn, rfl, rfl, hrow, hbel⟩ := hrel
    by_cases hlt : k < n
    · have i1 : (k : Int) < (n : Int) := by omega
      have k1 : k < s1.size := by omega
      have k2 : k < s2.size := by omega
      have kr : k < r.length := by have := HLR.out; have := HN.out; omega
      have x1 := HAT.out k k1 kr
      have x2 := HBT.out k k2 kr
      have y1 : 0 ≤ r[k].1 := by omega
      have y2 : r[k].1 ≤ 255 := by have := (s1[k]).toNat_lt; omega
      have y3 : 0 ≤ r[k].2 := by omega
      have y4 : r[k].2 ≤ 255 := by have := (s2[k]).toNat_lt; omega
      have c1 := hrow.out.cell (i := k * 2) (by omega)
      have c2 := hrow.out.cell (i := k * 2 + 1) (by omega)
      have f1 := hrow.out.frozen (k * 2)
      have f2 := hrow.out.frozen (k * 2 + 1)
      go_wp2_with fail
      go_region
      go_wp2_with fail
      go_roundg (n - (k + 1))
      case rel =>
        have R1 : Hid (((wr.setCell ⟨G, k * 2, none⟩ (.int .i64 r[k].1)).setCell ⟨G, k * 2 + 1, none⟩ (.int .i64 r[k].2)).drew.rowIs G 42 (n * 2) (fun j => .int .i64 (Sp.cellUpto r (k + 1) j))) :=
          (((hrow.out.set (k * 2) (.int .i64 r[k].1)).set (k * 2 + 1) (.int .i64 r[k].2)).congr fun j _ => Sp.cellUpto_set r k kr j).drew
        have R2 : Hid (Below w.heap.size w ((wr.setCell ⟨G, k * 2, none⟩ (.int .i64 r[k].1)).setCell ⟨G, k * 2 + 1, none⟩ (.int .i64 r[k].2)).drew) := ((hbel.out.setCell HG.out _).setCell HG.out _).drew
        exact ⟨k + 1, by omega, rfl, by go_num, R1, R2⟩
      case measure => omega
    · obtain rfl : k = n := by omega
      go_wp2_with fail
      go_ret
      have e := HN.out
      subst e
      refine ⟨G, rfl, HG.out, ?_, hbel.out⟩
      unfold RowG
      rw [HLR.out]
      exact hrow.out.congr fun j hj => by simp only [Sp.cellUpto, if_pos hj]
end Go.Proofs.Ytpoeklgoepjikaa

/-
  Rows in memory: a list of the call's own, each row in a block of its own; append onto it.
-/
namespace Go.Proofs.Ytpoeklgoepjikaa
open Go.RowKit

theorem Try.infoRR : (Try.prog.info? 40).map (fun i => (i.zero, i.size, i.bytes)) = some (some (.slice none 0 0), 1, 24) := by kernel_rfl
def rowVs (gs : List Nat) (L : List (List (Int × Int))) : List Value := (gs.zip L).map fun p => .slice (some ⟨p.1, 0, none⟩) p.2.length p.2.length
theorem rowVs_length {gs : List Nat} {L : List (List (Int × Int))} (h : gs.length = L.length) : (rowVs gs L).length = L.length := by simp [rowVs, h]
theorem rowVs_at {gs : List Nat} {L : List (List (Int × Int))} (j : Nat) (h1 : j < gs.length) (h2 : j < L.length) : (rowVs gs L)[j]? = some (.slice (some ⟨gs[j], 0, none⟩) L[j].length L[j].length) := by
  unfold rowVs
  rw [List.getElem?_map, List.getElem?_eq_getElem (by simp; omega)]
  simp
theorem rowVs_snoc {gs : List Nat} {L : List (List (Int × Int))} (h : gs.length = L.length) (g : Nat) (r : List (Int × Int)) : rowVs gs L ++ [.slice (some ⟨g, 0, none⟩) r.length r.length] = rowVs (gs ++ [g]) (L ++ [r]) := by
  unfold rowVs
  rw [List.zip_append h]
  simp
/-- The rows of the call's own. -/
structure RowsO (w : World) (B : Nat) (v : Value) (gs : List Nat) (L : List (List (Int × Int))) : Prop where
  own : w.ownsRow B 40 1 v L.length (rowVs gs L)
  len : gs.length = L.length
  row : ∀ j (h : j < gs.length) (h2 : j < L.length), B ≤ gs[j] ∧ RowG w gs[j] L[j]
  inc : gs.Pairwise (· < ·)
theorem RowG.kind {w : World} {g : Nat} {r : List (Int × Int)} (h : RowG w g r) : ∃ (c : Array Value) (fz : Nat × Nat), w.heap[g]? = some (Obj.cells c 42 fz) := by
  obtain ⟨c, h1, _⟩ := id h
  exact ⟨c, _, h1⟩
theorem RowG.of_block {w w' : World} {g : Nat} {r : List (Int × Int)} (h : RowG w g r) (e : w'.heap[g]? = w.heap[g]?) : RowG w' g r := World.rowIs.of_block h e
theorem RowG.lt {w : World} {g : Nat} {r : List (Int × Int)} (h : RowG w g r) : g < w.heap.size := World.rowIs.lt h
theorem RowsO.nil (w : World) (B : Nat) : RowsO w B (.slice none 0 0) [] [] := ⟨World.ownsRow_nil w B _ _, rfl, fun j h => by simp at h, List.Pairwise.nil⟩
theorem RowsO.kind {w : World} {B : Nat} {v : Value} {gs : List Nat} {L : List (List (Int × Int))} (h : RowsO w B v gs L) : ∀ g, v.ownBlock = some g → B ≤ g ∧ g < w.heap.size ∧ ∃ (c : Array Value) (fz : Nat × Nat), w.heap[g]? = some (Obj.cells c 40 fz) := by
  intro g hv
  refine ⟨(World.ownsRow.lt h.own g hv).1, (World.ownsRow.lt h.own g hv).2, ?_⟩
  rcases h.own.2 with ⟨h1, _⟩ | ⟨g', cap, cur, h1, hg, hh, _⟩
  · rw [h1] at hv; cases hv
  · rw [h1] at hv
    obtain rfl : g' = g := by simpa [Value.ownBlock] using hv
    exact ⟨_, _, hh⟩
theorem kinds_neY {w : World} {g k : Nat} {c c' : Array Value} {t t' : TypeId} {fz fz' : Nat × Nat} (h : w.heap[g]? = some (.cells c t fz)) (h' : w.heap[k]? = some (.cells c' t' fz')) (ht : t ≠ t') : g ≠ k := by
  rintro rfl
  rw [h] at h'
  injection h' with h'
  injection h' with _ h2
  exact ht h2
theorem ownsRow_keepY {w w' : World} {B : Nat} {t : TypeId} {z : Nat} {v : Value} {n : Nat} {xs : List Value} (h : w.ownsRow B t z v n xs) (e : ∀ k, v.ownBlock = some k → w'.heap[k]? = w.heap[k]?) : w'.ownsRow B t z v n xs := by
  refine ⟨h.1, ?_⟩
  rcases h.2 with h1 | ⟨g, cap, cur, rfl, hg, hh, hr⟩
  · exact .inl h1
  · exact .inr ⟨g, cap, cur, rfl, hg, (e g rfl).trans hh, hr⟩
theorem RowsO.keep {w w' : World} {B : Nat} {v : Value} {gs : List Nat} {L : List (List (Int × Int))} (h : RowsO w B v gs L) (e : ∀ k, k < w.heap.size → w'.heap[k]? = w.heap[k]?) : RowsO w' B v gs L :=
  ⟨ownsRow_keepY h.own fun k hv => e k (h.kind k hv).2.1, h.len, fun j h1 h2 => ⟨(h.row j h1 h2).1, (h.row j h1 h2).2.of_block (e _ (h.row j h1 h2).2.lt)⟩, h.inc⟩
theorem RowsO.below {w w' : World} {B : Nat} {v : Value} {gs : List Nat} {L : List (List (Int × Int))} (h : RowsO w B v gs L) (hb : Below w.heap.size w w') : RowsO w' B v gs L := h.keep fun k hk => hb.block k hk
theorem RowsO.alloc {w : World} {B : Nat} {v : Value} {gs : List Nat} {L : List (List (Int × Int))} (h : RowsO w B v gs L) (o : Obj) : RowsO (w.alloc o) B v gs L := h.keep fun _ hk => Go.Deep.blk_alloc_lt _ _ _ hk
/-- One row more. -/
theorem RowsO.push {wr w1 : World} {B G : Nat} {v v' : Value} {gs : List Nat} {L : List (List (Int × Int))} {r : List (Int × Int)} {o : Obj} (h : RowsO wr B v gs L) (hG : RowG wr G r) (hB : B ≤ G) (hlt : ∀ g ∈ gs, g < G)
    (h1 : w1.ownsRow B 40 1 v' (L.length + 1) (rowVs gs L ++ [.slice (some ⟨G, 0, none⟩) r.length r.length])) (hg : (wr.alloc o).grownBy w1 v.ownBlock) : RowsO w1 B v' (gs ++ [G]) (L ++ [r]) := by
  have hl := h.len
  have keep : ∀ (k : Nat) (c : Array Value) (fz : Nat × Nat), wr.heap[k]? = some (Obj.cells c 42 fz) → w1.heap[k]? = wr.heap[k]? := fun k c fz hk => by
    obtain ⟨hlk, _⟩ := Array.getElem?_eq_some_iff.1 hk
    rw [hg.block k (by simp; omega) (fun e => ?_), Go.Deep.blk_alloc_lt _ _ _ hlk]
    obtain ⟨_, _, c', fz', hc'⟩ := h.kind k e.symm
    exact kinds_neY hk hc' (by decide) rfl
  refine ⟨?_, by simp [hl], fun j hj hj2 => ?_, ?_⟩
  · rw [rowVs_snoc hl] at h1
    simpa using h1
  · by_cases e : j < gs.length
    · rw [List.getElem_append_left e, List.getElem_append_left (by omega)]
      obtain ⟨q1, q2⟩ := h.row j e (by omega)
      obtain ⟨c, fz, hc⟩ := q2.kind
      exact ⟨q1, q2.of_block (keep _ c fz hc)⟩
    · have e' : j = gs.length := by simp at hj; omega
      subst e'
      simp only [hl, List.getElem_append_right (Nat.le_refl _), Nat.sub_self, List.getElem_cons_zero]
      obtain ⟨c, fz, hc⟩ := hG.kind
      have e3 : (gs ++ [G])[L.length]'(by simp; omega) = G := by simp only [← hl, List.getElem_append_right (Nat.le_refl _), Nat.sub_self, List.getElem_cons_zero]
      rw [e3]
      exact ⟨hB, hG.of_block (keep _ c fz hc)⟩
  · rw [List.pairwise_append]
    exact ⟨h.inc, List.pairwise_singleton _ _, fun a ha b hb => by rw [List.mem_singleton.1 hb]; exact hlt a ha⟩
theorem new_sliceY (w : World) (a : Option Addr) (m c : Nat) : ∀ j u, [Value.slice a m c][j]? = some u → (w.alloc (.cells #[.slice a m c] 40)).cell? ((⟨w.heap.size, 0, none⟩ : Addr).add j) = some u := by
  intro j u hj
  match j, hj with
  | 0, hj => simp at hj; subst hj; simp [Addr.add]
theorem RowsO.blocks {w : World} {B : Nat} {v : Value} {gs : List Nat} {L : List (List (Int × Int))} (h : RowsO w B v gs L) : ∀ g ∈ gs, g < w.heap.size := by
  intro g hg
  obtain ⟨j, hj, rfl⟩ := List.mem_iff_getElem.1 hg
  exact (h.row j hj (by rw [← h.len]; exact hj)).2.lt
/-- 'append(v, row)' of one row, whose slice lies in a new block. -/
theorem wpList_pushRow {ops : Array Oper} {rest : List Oper} {o : Oper} {a : Act} {Q : Exit → Act → World → Prop} {w : World} (hgd : o.guard = none) (s x : Operand)
    (ho : o.op = .call { callee := .builtin .append, args := #[s, x], argTypes := #[38, 38] })
    (B G m : Nat) (v : Value) (gs : List Nat) (L : List (List (Int × Int))) (r : List (Int × Int)) (hs : a.eval s = v) (h : RowsO w B v gs L) (hB : B ≤ w.heap.size) (hG : RowG w G r) (hBG : B ≤ G) (hlt : ∀ g ∈ gs, g < G) (hr : r.length = m)
    (hx : a.eval x = .slice (some ⟨w.heap.size, 0, none⟩) 1 1) (hb : L.length + 1 ≤ 1099511627776)
    (hk : ∀ v' w', RowsO w' B v' (gs ++ [G]) (L ++ [r]) → (w.alloc (.cells #[.slice (some ⟨G, 0, none⟩) m m] 40)).grownBy w' v.ownBlock → wpList Try.prog ops Q rest (a.put o.dst v') w') :
    wpList Try.prog ops Q (o :: rest) a (w.alloc (.cells #[.slice (some ⟨G, 0, none⟩) m m] 40)) := by
  subst hr
  obtain ⟨ii, hi, hz0, hz1, hz2⟩ := info_parts Try.infoRR
  refine wpList_append_own _ hgd s x 38 ho B 40 ii (.slice none 0 0) 1 24 Try.underlying38 hi hz0 hz1 hz2 rfl (by decide) _ _ _ hs (h.own.alloc _) ⟨w.heap.size, 0, none⟩ 1 1 [.slice (some ⟨G, 0, none⟩) r.length r.length] hx rfl (new_sliceY w _ _ _) ?_ (by unfold maxLen; omega) (by omega) (by simp; omega) ?_
  · intro u hu
    simp at hu
    subst hu
    rfl
  · intro v' w' h1 h2 _
    exact hk v' w' (h.push hG hBG hlt h1 h2) h2
end Go.Proofs.Ytpoeklgoepjikaa

/-
  What Rows answers.
-/
namespace Go.Proofs.Ytpoeklgoepjikaa
open Go.RowKit

namespace Sp
def upto (lo hi : Int) (k : Nat) : List (Int × Int) := (cuts.take k).flatMap fun k => segs (max lo k.1) (min hi k.2.1) k.2.2
theorem upto_all (lo hi : Int) : upto lo hi 5 = pairs lo hi := rfl
theorem upto_step (lo hi : Int) (k : Nat) (f l : Int) (tl : Nat) (hc : cuts[k]? = some (f, l, tl)) : upto lo hi (k + 1) = upto lo hi k ++ segs (max lo f) (min hi l) tl := by
  unfold upto
  rw [List.take_add_one, hc, Option.toList_some, List.flatMap_append]
  simp
theorem upto_len (lo hi : Int) (k : Nat) : (upto lo hi k).length ≤ 20 := by
  have h := rows_few lo hi
  unfold rows at h
  rw [List.length_map] at h
  refine Nat.le_trans ?_ h
  unfold upto pairs
  conv => rhs; rw [← List.take_append_drop k cuts]
  rw [List.flatMap_append, List.length_append]
  exact Nat.le_add_right _ _
theorem done_len {lo hi : Int} {k : Nat} {f l : Int} {tl : Nat} (hc : cuts[k]? = some (f, l, tl)) {done rest : List (Int × Int)} (e : segs (max lo f) (min hi l) tl = done ++ rest) : (upto lo hi k ++ done).length ≤ 20 := by
  have h1 := upto_len lo hi (k + 1)
  rw [upto_step lo hi k f l tl hc, e] at h1
  simp only [List.length_append] at h1 ⊢
  omega
theorem cut_last {f l : Int} {tails : Nat} (h : InCut f l tails) : l ≤ 1114111 := by cases h <;> omega
theorem cut_at (k : Nat) (h : k < 5) : ∃ f l tl, cuts[k]? = some (f, l, tl) ∧ InCut f l tl := by
  have hk : k = 0 ∨ k = 1 ∨ k = 2 ∨ k = 3 ∨ k = 4 := by omega
  rcases hk with rfl | rfl | rfl | rfl | rfl
  · exact ⟨_, _, _, rfl, .c0⟩
  · exact ⟨_, _, _, rfl, .c1⟩
  · exact ⟨_, _, _, rfl, .c2⟩
  · exact ⟨_, _, _, rfl, .c3⟩
  · exact ⟨_, _, _, rfl, .c4⟩
end Sp
theorem mem_snoc {w : World} {B : Nat} {v : Value} {gs : List Nat} {L : List (List (Int × Int))} (h : RowsO w B v gs L) {G : Nat} (hG : w.heap.size ≤ G) : ∀ g ∈ gs, g < G := fun g hg => by have := h.blocks g hg; omega
theorem cut_index0 (w : World) : (Instr.index 66 (.agg #[.int .i64 0, .int .i64 127, .int .i64 0, .int .i64 128, .int .i64 2047, .int .i64 1, .int .i64 2048, .int .i64 55295, .int .i64 2, .int .i64 57344, .int .i64 65535, .int .i64 2, .int .i64 65536, .int .i64 1114111, .int .i64 3]) (.int .i64 0)).run Try.prog w = .ok (.agg #[.int .i64 0, .int .i64 127, .int .i64 0]) w := by kernel_rfl
theorem cut_index1 (w : World) : (Instr.index 66 (.agg #[.int .i64 0, .int .i64 127, .int .i64 0, .int .i64 128, .int .i64 2047, .int .i64 1, .int .i64 2048, .int .i64 55295, .int .i64 2, .int .i64 57344, .int .i64 65535, .int .i64 2, .int .i64 65536, .int .i64 1114111, .int .i64 3]) (.int .i64 1)).run Try.prog w = .ok (.agg #[.int .i64 128, .int .i64 2047, .int .i64 1]) w := by kernel_rfl
theorem cut_index2 (w : World) : (Instr.index 66 (.agg #[.int .i64 0, .int .i64 127, .int .i64 0, .int .i64 128, .int .i64 2047, .int .i64 1, .int .i64 2048, .int .i64 55295, .int .i64 2, .int .i64 57344, .int .i64 65535, .int .i64 2, .int .i64 65536, .int .i64 1114111, .int .i64 3]) (.int .i64 2)).run Try.prog w = .ok (.agg #[.int .i64 2048, .int .i64 55295, .int .i64 2]) w := by kernel_rfl
theorem cut_index3 (w : World) : (Instr.index 66 (.agg #[.int .i64 0, .int .i64 127, .int .i64 0, .int .i64 128, .int .i64 2047, .int .i64 1, .int .i64 2048, .int .i64 55295, .int .i64 2, .int .i64 57344, .int .i64 65535, .int .i64 2, .int .i64 65536, .int .i64 1114111, .int .i64 3]) (.int .i64 3)).run Try.prog w = .ok (.agg #[.int .i64 57344, .int .i64 65535, .int .i64 2]) w := by kernel_rfl
theorem cut_index4 (w : World) : (Instr.index 66 (.agg #[.int .i64 0, .int .i64 127, .int .i64 0, .int .i64 128, .int .i64 2047, .int .i64 1, .int .i64 2048, .int .i64 55295, .int .i64 2, .int .i64 57344, .int .i64 65535, .int .i64 2, .int .i64 65536, .int .i64 1114111, .int .i64 3]) (.int .i64 4)).run Try.prog w = .ok (.agg #[.int .i64 65536, .int .i64 1114111, .int .i64 3]) w := by kernel_rfl
theorem cut_index (k : Nat) (f l : Int) (tl : Nat) (h : Sp.cuts[k]? = some (f, l, tl)) (w : World) :
    (Instr.index 66 (.agg #[.int .i64 0, .int .i64 127, .int .i64 0, .int .i64 128, .int .i64 2047, .int .i64 1, .int .i64 2048, .int .i64 55295, .int .i64 2, .int .i64 57344, .int .i64 65535, .int .i64 2, .int .i64 65536, .int .i64 1114111, .int .i64 3]) (.int .i64 (k : Int))).run Try.prog w = .ok (.agg #[.int .i64 f, .int .i64 l, .int .i64 (tl : Int)]) w := by
  have hk : k < 5 := (List.getElem?_eq_some_iff.1 h).1
  have hk : k = 0 ∨ k = 1 ∨ k = 2 ∨ k = 3 ∨ k = 4 := by omega
  rcases hk with rfl | rfl | rfl | rfl | rfl
  · simp [Sp.cuts] at h
    obtain ⟨rfl, rfl, rfl⟩ := h
    exact cut_index0 w
  · simp [Sp.cuts] at h
    obtain ⟨rfl, rfl, rfl⟩ := h
    exact cut_index1 w
  · simp [Sp.cuts] at h
    obtain ⟨rfl, rfl, rfl⟩ := h
    exact cut_index2 w
  · simp [Sp.cuts] at h
    obtain ⟨rfl, rfl, rfl⟩ := h
    exact cut_index3 w
  · simp [Sp.cuts] at h
    obtain ⟨rfl, rfl, rfl⟩ := h
    exact cut_index4 w

set_option maxRecDepth 100000 in
set_option maxHeartbeats 2000000 in
theorem rows_any (lo hi : Int) (w : World) :
    Calls Try.prog 11 #[.int .i64 lo, .int .i64 hi] w fun e w' => ∃ v gs, e = .returned v ∧ RowsO w' w.heap.size v gs (Sp.rows lo hi) ∧ Below w.heap.size w w' := by
  go_enter Try.func11, Try.ntmps11
  go_wp2_with fail
  have HB0 : Hid (∀ o, Below w.heap.size w (w.alloc o)) := fun o => (Below.refl _ _).alloc (Nat.le_refl _) o
  obtain ⟨w1, hw1⟩ : ∃ w1, w1 = w.alloc (.cells #[.int .i64 0, .int .i64 127, .int .i64 0, .int .i64 128, .int .i64 2047, .int .i64 1, .int .i64 2048, .int .i64 55295, .int .i64 2, .int .i64 57344, .int .i64 65535, .int .i64 2, .int .i64 65536, .int .i64 1114111, .int .i64 3] 66) := ⟨_, rfl⟩
  have HB1 : Hid (Below w.heap.size w w1) := by rw [hw1]; exact HB0.out _
  rw [← hw1]
  clear hw1 HB0
  go_loopg [6, 19] 5 (fun g v i wx => ∃ (k : Nat) (gs : List Nat), k ≤ 5 ∧ g = 5 - k ∧ i = .int .i64 k ∧ Hid (RowsO wx w.heap.size v gs ((Sp.upto lo hi k).map Sp.rowOf)) ∧ Hid (Below w.heap.size w wx))
  case atStart => exact ⟨0, [], by omega, rfl, rfl, RowsO.nil _ _, HB1⟩
  case round =>
    obtain ⟨k, gs, hk, rfl, rfl, hrows, hbel⟩ := hrel
    by_cases hlt : k < 5
    · have i1 : (k : Int) < 5 := by omega
      obtain ⟨f, l, tl, hcut, hin⟩ := Sp.cut_at k hlt
      have hix := cut_index k f l tl hcut
      obtain ⟨M, hM⟩ : ∃ M, M = min hi l := ⟨_, rfl⟩
      obtain ⟨C, hC⟩ : ∃ C, C = max lo f := ⟨_, rfl⟩
      have hmin : min hi l = M := hM.symm
      have hmin2 : min l hi = M := by rw [hM]; omega
      have hmax : max lo f = C := hC.symm
      have hmax2 : max f lo = C := by rw [hC]; omega
      have hf0 := (Sp.cut_small hin).2
      have htl := (Sp.cut_small hin).1
      have hl1 := Sp.cut_last hin
      have hCf : f ≤ C := by omega
      have hMl : M ≤ l := by omega
      have HUP := Lib.hid (Sp.upto_step lo hi k f l tl hcut)
      have HDL := Lib.hid (fun done rest => @Sp.done_len lo hi k f l tl hcut done rest)
      rw [← hM, ← hC] at HUP HDL
      have HIN := Lib.hid hin
      have HBS : Hid (w.heap.size ≤ wr.heap.size) := hbel.out.size
      have HROW := Lib.hid (hrows.out.alloc (.cells #[.int .i64 f, .int .i64 l, .int .i64 (tl : Int)] 65))
      have HBL : Hid (Below w.heap.size w (wr.alloc (.cells #[.int .i64 f, .int .i64 l, .int .i64 (tl : Int)] 65))) := hbel.out.alloc HBS.out _
      have HBK : Hid ((wr.alloc (.cells #[.int .i64 f, .int .i64 l, .int .i64 (tl : Int)] 65)).heap[wr.heap.size]? = some (.cells #[.int .i64 f, .int .i64 l, .int .i64 (tl : Int)] 65 (0, 0))) := Go.Deep.blk_alloc_new _ _
      clear hM hC hcut hin hrows hbel
      go_wp2_with fail
      clear hix hmin hmax hmin2 hmax2
      obtain ⟨b8, hb8⟩ : ∃ b, b = wr.heap.size := ⟨_, rfl⟩
      have HB8 : Hid (w.heap.size ≤ b8) := by show _ ≤ _; rw [hb8]; exact HBS.out
      rw [← hb8] at HBK ⊢
      clear hb8
      generalize wr.alloc (.cells #[.int .i64 f, .int .i64 l, .int .i64 (tl : Int)] 65) = W1 at *
      go_loopg [6, 10] (M + 1 - C).toNat (fun g v c wx => ∃ (vv : Value) (x : Int) (gs : List Nat) (done : List (Int × Int)), vv = v ∧ f ≤ x ∧ g = (M + 1 - x).toNat ∧ c = .int .i64 x ∧ Hid (Sp.segs C M tl = done ++ Sp.segs x M tl) ∧ Hid (RowsO wx w.heap.size v gs ((Sp.upto lo hi k ++ done).map Sp.rowOf)) ∧ Hid (Below w.heap.size w wx) ∧
        Hid (wx.heap[b8]? = some (.cells #[.int .i64 f, .int .i64 l, .int .i64 (tl : Int)] 65 (0, 0))))
      case atStart => exact ⟨_, C, gs, [], rfl, hCf, rfl, rfl, rfl, by rw [List.append_nil]; exact HROW.out, HBL, HBK⟩
      case round =>
        obtain ⟨vv, x, gs2, done, rfl, hfx, rfl, rfl, hseg, hrows, hbel, hblk⟩ := hrel
        by_cases hxM : x ≤ M
        · have hgd := (Sp.endOf_good x M f l tl htl (by omega) hfx hxM hMl)
          have hE := Lib.hid (endOf_any x M tl wr (by omega) hxM (by omega) htl)
          have hst := Sp.segs_step x M tl htl (by omega)
          rw [if_pos hxM] at hst
          obtain ⟨hg1, hg2⟩ := hgd
          have hle := hg1.le
          have HR := Lib.hid (rowOf_any x (Sp.endOf x M tl) f l tl _ HIN.out hg1)
          have hlen := HDL.out done (Sp.segs x M tl) hseg.out
          have HSEG : Hid (Sp.segs C M tl = (done ++ [(x, Sp.endOf x M tl)]) ++ Sp.segs (Sp.endOf x M tl + 1) M tl) := by
            show _ = _
            rw [List.append_assoc, List.singleton_append, ← hst]
            exact hseg.out
          have HLR : Hid ((Sp.rowOf (x, Sp.endOf x M tl)).length = tl + 1) := (Sp.row_good HIN.out hg1).len
          have c8 : wr.cell? ⟨b8, 2, none⟩ = some (.int .i64 (tl : Int)) := by simp [World.cell?, hblk.out]
          have HLEN : Hid (((Sp.upto lo hi k ++ done).map Sp.rowOf).length ≤ 20) := by show _ ≤ _; rw [List.length_map]; exact hlen
          clear hg1 hst hlen hseg
          generalize Sp.endOf x M tl = e at *
          go_wp2_with fail
          refine hE.out.mono ?_
          rintro e2 w2 ⟨rfl, rfl⟩
          go_wp2_with fail
          refine (HR.out wr).mono ?_
          rintro e2 w2 ⟨G, rfl, hG1, hG2, hG3⟩
          have HG1 : Hid (w.heap.size ≤ G) := Nat.le_trans hbel.out.size hG1
          have HG2 := Lib.hid hG2
          have HR2 := Lib.hid (hrows.out.below hG3)
          have HMS := Lib.hid (mem_snoc hrows.out hG1)
          have HB2 : Hid (Below w.heap.size w w2) := hbel.out.trans (hG3.mono hbel.out.size)
          have HK2 : Hid (w2.heap[b8]? = some (.cells #[.int .i64 f, .int .i64 l, .int .i64 (tl : Int)] 65 (0, 0))) := by
            have h8 := (Array.getElem?_eq_some_iff.1 hblk.out).1
            exact (hG3.block b8 h8).trans hblk.out
          clear hG1 hG2 hG3
          go_wp2_with (at_builtin; go_loud ((refine wpList_pushRow rfl _ _ rfl w.heap.size G (tl + 1) vv gs2 _ _ rfl HR2.out HB2.out.size HG2.out HG1.out HMS.out HLR.out rfl (by have := HLEN.out; omega) ?_)); intro v5 w5 hr5 hg5; have HR5 := Lib.hid hr5; have HG5 := Lib.hid hg5; clear hr5 hg5)
          have HK5 : Hid (w5.heap[b8]? = some (.cells #[.int .i64 f, .int .i64 l, .int .i64 (tl : Int)] 65 (0, 0))) := by
            have h8 := (Array.getElem?_eq_some_iff.1 HK2.out).1
            refine (HG5.out.block b8 (by simp; omega) (fun e => ?_)).trans ((Go.Deep.blk_alloc_lt _ _ _ h8).trans HK2.out)
            obtain ⟨_, _, c', fz', hc'⟩ := HR2.out.kind b8 e.symm
            exact kinds_neY HK2.out hc' (by decide) rfl
          have HB5 : Hid (Below w.heap.size w w5) := (HB2.out.alloc HB2.out.size _).grown HG5.out (by have := HB2.out.size; simp; omega) (fun j hj => (HR2.out.kind j hj).1)
          go_roundg (M + 1 - (e + 1)).toNat
          case rel => exact ⟨_, e + 1, _, _, rfl, by omega, rfl, by go_num, HSEG, by show RowsO _ _ _ _ _; simpa using HR5.out, HB5, HK5⟩
          case measure => omega
        · have hst := Sp.segs_step x M tl htl (by omega)
          rw [if_neg hxM] at hst
          have HU : Hid (Sp.upto lo hi (k + 1) = Sp.upto lo hi k ++ done) := by
            show _ = _
            rw [HUP.out, hseg.out, hst, List.append_nil]
          clear hst
          go_wp2_with fail
          go_roundg (5 - (k + 1))
          case rel => exact ⟨k + 1, gs2, by omega, rfl, by go_num, by rw [HU.out]; exact hrows, hbel⟩
          case measure => omega
    · obtain rfl : k = 5 := by omega
      go_wp2_with fail
      go_ret
      exact ⟨_, gs, rfl, hrows.out, hbel.out⟩
end Go.Proofs.Ytpoeklgoepjikaa

/-
  The document's own answers on single characters: words, folding, their bytes, and which one bytes would be.
-/
namespace Go.Proofs.Ytpoeklgoepjikaa
open Go.RowKit

/-- 'string([]byte{..})' of a character's bytes. -/
theorem rune_conv (c : Int) (cs : Array Value) (k : Nat) (h : Lib.runeCells c = cs.toList) (hk : cs.size = k) (w : World) :
    (convert 98 9 (.slice (some ⟨w.heap.size, 0, none⟩) k k)).run Try.prog (w.alloc (.cells cs 5)) = .ok (.string ⟨(Lib.encodeRune c).toArray⟩) (w.alloc (.cells cs 5)) := by
  have hl : (Lib.encodeRune c).length = k := by
    rw [← hk, ← Array.length_toList, ← h, ← Ut.bytes_rune, bytesV_length5]
  subst hl
  refine run_convert_bytes_back (P := Try.prog) _ 98 9 5 ⟨w.heap.size, 0, none⟩ _ (Lib.encodeRune c) Try.underlying98 Try.underlying5 Try.underlying9 fun j hj => ?_
  rw [Addr.add_lit, Nat.zero_add, World.cell?_alloc_at _ _ _ _ rfl, ← Array.getElem?_toList, ← h, ← Ut.bytes_rune]
  simp [bytesV5, hj]
theorem tdiv_pos (c d : Int) (h : 0 ≤ c) : c.tdiv d = c / d := Int.tdiv_eq_ediv_of_nonneg h
theorem tmod_pos (c d : Int) (h : 0 ≤ c) : c.tmod d = c % d := Int.tmod_eq_emod_of_nonneg h

set_option maxRecDepth 100000 in
set_option maxHeartbeats 2000000 in
theorem one_any5 (c : Int) (h : Ut.whole c = true) (w : World) :
    Calls Try.prog 31 #[.int .i64 c] w fun e w' => e = .returned (.string ⟨(Lib.encodeRune c).toArray⟩) ∧ Below w.heap.size w w' := by
  have hcv := fun cs k h1 h2 => rune_conv c cs k h1 h2 w
  have HB : ∀ o, Hid (Below w.heap.size w (w.alloc o)) := fun o => (Below.refl _ _).alloc (Nat.le_refl _) _
  unfold Lib.runeCells at hcv
  generalize Lib.encodeRune c = S at *
  rcases Ut.run_cases c h with ⟨h1, h2, e⟩ | ⟨h1, h2, e⟩ | ⟨h1, e⟩ | ⟨h1, h2, e⟩
  · rw [e] at hcv
    have hcv1 := hcv #[.int .u8 c] 1 rfl rfl
    clear hcv e h
    go_enter Try.func31, Try.ntmps31
    go_wp2_with fail
    go_ret
    exact ⟨rfl, (HB _).out⟩
  · rw [e] at hcv
    have hcv1 := hcv #[.int .u8 (192 + c / 64), .int .u8 (128 + c % 64)] 2 rfl rfl
    have d1 := tdiv_pos c 64 (by omega)
    have m1 := tmod_pos c 64 (by omega)
    have b1 : 0 ≤ c / 64 ∧ c / 64 < 32 := by omega
    have b2 : 0 ≤ c % 64 ∧ c % 64 < 64 := by omega
    generalize c / 64 = q1 at *
    generalize c % 64 = r1 at *
    clear hcv e h
    go_enter Try.func31, Try.ntmps31
    go_wp2_with fail
    go_ret
    exact ⟨rfl, (HB _).out⟩
  · rw [e] at hcv
    have hcv1 := hcv #[.int .u8 (224 + c / 4096), .int .u8 (128 + c / 64 % 64), .int .u8 (128 + c % 64)] 3 rfl rfl
    have d1 := tdiv_pos c 64 (by omega)
    have d2 := tdiv_pos c 4096 (by omega)
    have m1 := tmod_pos c 64 (by omega)
    have m2 := tmod_pos (c / 64) 64 (by omega)
    have b1 : 0 ≤ c / 64 ∧ c / 64 < 1024 := by omega
    have b2 : 0 ≤ c % 64 ∧ c % 64 < 64 := by omega
    have b3 : 0 ≤ c / 4096 ∧ c / 4096 < 16 := by omega
    have b4 : 0 ≤ c / 64 % 64 ∧ c / 64 % 64 < 64 := by omega
    have n1 : ¬ c < 2048 := by omega
    have n2 : c < 65536 := by omega
    generalize c / 64 % 64 = r2 at *
    generalize c / 64 = q1 at *
    generalize c / 4096 = q2 at *
    generalize c % 64 = r1 at *
    clear hcv e h
    go_enter Try.func31, Try.ntmps31
    go_wp2_with fail
    go_ret
    exact ⟨rfl, (HB _).out⟩
  · rw [e] at hcv
    have hcv1 := hcv #[.int .u8 (240 + c / 262144), .int .u8 (128 + c / 4096 % 64), .int .u8 (128 + c / 64 % 64), .int .u8 (128 + c % 64)] 4 rfl rfl
    have d1 := tdiv_pos c 64 (by omega)
    have d2 := tdiv_pos c 4096 (by omega)
    have d3 := tdiv_pos c 262144 (by omega)
    have m1 := tmod_pos c 64 (by omega)
    have m2 := tmod_pos (c / 64) 64 (by omega)
    have m3 := tmod_pos (c / 4096) 64 (by omega)
    have b1 : 0 ≤ c / 64 ∧ c / 64 < 100000 := by omega
    have b2 : 0 ≤ c % 64 ∧ c % 64 < 64 := by omega
    have b3 : 0 ≤ c / 4096 ∧ c / 4096 < 1000 := by omega
    have b4 : 0 ≤ c / 64 % 64 ∧ c / 64 % 64 < 64 := by omega
    have b5 : 0 ≤ c / 262144 ∧ c / 262144 < 8 := by omega
    have b6 : 0 ≤ c / 4096 % 64 ∧ c / 4096 % 64 < 64 := by omega
    generalize c / 64 % 64 = r2 at *
    generalize c / 4096 % 64 = r3 at *
    generalize c / 64 = q1 at *
    generalize c / 4096 = q2 at *
    generalize c / 262144 = q3 at *
    generalize c % 64 = r1 at *
    clear hcv e h
    go_enter Try.func31, Try.ntmps31
    go_wp2_with fail
    go_ret
    exact ⟨rfl, (HB _).out⟩
end Go.Proofs.Ytpoeklgoepjikaa

/-
  The document's own Encode; which character as many bytes would be.
-/
namespace Go.Proofs.Ytpoeklgoepjikaa
open Go.RowKit

theorem mk_append (a b : List UInt8) : (⟨a.toArray⟩ : ByteArray) ++ ⟨b.toArray⟩ = ⟨(a ++ b).toArray⟩ := by
  apply mk_of5
  rw [ByteArray.data_append]
  simp
theorem mk_size (a : List UInt8) : (⟨a.toArray⟩ : ByteArray).size = a.length := by simp [ByteArray.size]

set_option maxRecDepth 100000 in
set_option maxHeartbeats 2000000 in
theorem encodeR_any (w : World) (v : Value) (xs : List Int) (hv : IntS w v xs) (hx : xs.length ≤ 17592186044416) :
    Calls Try.prog 15 #[v] w (EncPost w xs) := by
  obtain ⟨a, cap, rfl, _, _, hv⟩ := hv
  have HV := Lib.hid hv
  clear hv
  obtain ⟨n, hn⟩ : ∃ n, n = xs.length := ⟨_, rfl⟩
  have HN := Lib.hid hn
  rw [← hn] at hx ⊢
  clear hn
  go_enter Try.func15, Try.ntmps15
  go_wp2_with fail
  go_loopg [4, 5] n (fun g s i wx => ∃ (k : Nat) (S : ByteArray), k ≤ n ∧ g = n - k ∧ i = .int .i64 k ∧ s = .string S ∧ S.size ≤ 4 * k ∧ Hid (Ut.allW (xs.take k) = true) ∧ Hid (S = ⟨(Ut.enc (xs.take k)).toArray⟩) ∧ Below w.heap.size w wx)
  case atStart => exact ⟨0, ⟨#[]⟩, Nat.zero_le _, rfl, rfl, rfl, Nat.le_refl _, rfl, rfl, Below.refl _ _⟩
  case round =>
    obtain ⟨k, S, hk, rfl, rfl, rfl, hS4, hA, hS, hbel⟩ := hrel
    by_cases hkn : k < n
    · have i1 : (k : Int) < (n : Int) := by omega
      have kx : k < xs.length := by rw [← HN.out]; exact hkn
      obtain ⟨g, o, rfl, hg, hcu⟩ := HV.out (by omega)
      have c1 : wr.cell? ⟨g, o + k, none⟩ = some (.int .i64 xs[k]) := (hbel.cell (p := ⟨g, o + k, none⟩) hg).trans (hcu k kx)
      have hs1 := Ut.allW_step kx
      have hs2 := Ut.enc_step kx
      have hs3 := @Ut.allW_not xs k kx
      have hw := Lib.hid (wholeR_any xs[k] wr)
      have ho := Lib.hid (fun (h : Ut.whole xs[k] = true) => one_any5 xs[k] h wr)
      have hrl := Ut.rune_length xs[k]
      clear hcu
      generalize xs[k] = c at *
      have HBE := Lib.hid hbel
      clear hbel
      cases hwc : Ut.whole c
      · rw [hwc] at hw
        have hno := Lib.hid (hs3 hwc)
        clear hs1 hs2 hs3 ho hA hS hrl
        go_wp2_with fail
        refine hw.out.mono ?_
        rintro e w2 ⟨rfl, rfl⟩
        go_wp2_with fail
        go_ret2
        exact ⟨ret_si (by rw [Ut.encS_no hno.out]) (by rw [Ut.encE_no hno.out]), HBE.out⟩
      · rw [hwc] at hw hs1
        have hA2 : Hid (Ut.allW (xs.take (k + 1)) = true) := by show _ = _; rw [hs1, hA.out]; rfl
        have ho2 := Lib.hid (ho.out hwc)
        obtain ⟨T, hT⟩ : ∃ T : ByteArray, T = ⟨(Lib.encodeRune c).toArray⟩ := ⟨_, rfl⟩
        have hTs : T.size ≤ 4 := by rw [hT, mk_size]; exact hrl.2
        have hS2 : Hid (S ++ T = ⟨(Ut.enc (xs.take (k + 1))).toArray⟩) := by show _ = _; rw [hS.out, hT, mk_append, hs2]
        rw [← hT] at ho2
        have hz : ¬ 9223372036854775807 < S.size + T.size := by omega
        have hz2 : Hid ((S ++ T).size ≤ 4 * (k + 1)) := by show _ ≤ _; rw [ByteArray.size_append]; omega
        clear hs1 hs2 hs3 ho hA hS hT hrl
        go_wp2_with fail
        refine hw.out.mono ?_
        rintro e w2 ⟨rfl, rfl⟩
        go_wp2_with fail
        refine ho2.out.mono ?_
        rintro e w2 ⟨rfl, hb2⟩
        have HB2 : Hid (Below w.heap.size w w2) := HBE.out.trans (hb2.mono HBE.out.size)
        clear hb2
        go_wp2_with fail
        go_roundg (n - (k + 1))
        case rel => exact ⟨k + 1, S ++ T, by omega, rfl, by go_num, rfl, hz2.out, hA2, hS2, HB2.out⟩
        case measure => omega
    · obtain rfl : k = n := by omega
      have hfull : xs.take k = xs := List.take_of_length_le (by rw [← HN.out]; exact Nat.le_refl _)
      rw [hfull] at hA hS
      have HBE := Lib.hid hbel
      clear hbel hfull
      go_wp2_with fail
      go_ret2
      exact ⟨ret_si (by rw [hS.out, Ut.encS_yes hA.out]) (by rw [Ut.encE_yes hA.out]), HBE.out⟩

namespace Ut
/-- What is told so far, with the bytes that are left. -/
def told (X : Int) (l : List UInt8) : Int := l.foldl (fun c b => 64 * c + (b.toNat : Int) - 128) X
def leads (n : Nat) : Int := if n = 2 then 192 else if n = 3 then 224 else if n = 4 then 240 else 0
theorem guess_told (l : List UInt8) (h0 : 0 < l.length) (h4 : l.length ≤ 4) : guess l = told ((l.head?.getD 0).toNat - leads l.length) (l.drop 1) := by
  match l, h0, h4 with
  | [a], _, _ => simp [guess, told, leads]
  | [a, b], _, _ => simp [guess, told, leads]
  | [a, b, c], _, _ => simp [guess, told, leads]
  | [a, b, c, d], _, _ => simp [guess, told, leads]
  | _ :: _ :: _ :: _ :: _ :: _, _, h => simp at h
end Ut

end Go.Proofs.Ytpoeklgoepjikaa

/-
  The document's own Count, Fits, Holds, Characters and Bytes over rows.
-/
namespace Go.Proofs.Ytpoeklgoepjikaa
open Go.RowKit

namespace Sp
theorem cnt_snoc (l : List (Int × Int)) (x : Int × Int) : cnt (l ++ [x]) = cnt l * (x.2 - x.1 + 1) := by
  unfold cnt
  rw [List.foldl_append]
  rfl
theorem cnt_bd : ∀ (n : Nat) (l : List (Int × Int)), l.length = n → (∀ x ∈ l, 0 ≤ x.1 ∧ x.1 ≤ x.2 ∧ x.2 ≤ 255) → 1 ≤ cnt l ∧ cnt l ≤ 256 ^ n
  | 0, l, h, _ => by
    obtain rfl := List.length_eq_zero_iff.1 h
    decide
  | n + 1, l, h, hx => by
    obtain ⟨t, x, rfl⟩ : ∃ t x, l = t ++ [x] := ⟨l.dropLast, l.getLast (by intro e; rw [e] at h; simp at h), (List.dropLast_concat_getLast _).symm⟩
    have h2 := hx x (by simp)
    obtain ⟨i1, i2⟩ := cnt_bd n t (by simpa using h) fun y hy => hx y (by simp [hy])
    rw [cnt_snoc, Int.pow_succ]
    constructor
    · have := Int.mul_le_mul i1 (show (1 : Int) ≤ x.2 - x.1 + 1 by omega) (by omega) (by omega)
      omega
    · exact Int.mul_le_mul i2 (by omega) (by omega) (by omega)
theorem fits_iff : ∀ (r : List (Int × Int)) (l : List UInt8), fits r l = true ↔ r.length = l.length ∧ ∀ i (h1 : i < r.length) (h2 : i < l.length), r[i].1 ≤ ((l[i]).toNat : Int) ∧ ((l[i]).toNat : Int) ≤ r[i].2
  | [], [] => by simp [fits]
  | [], _ :: _ => by simp [fits]
  | _ :: _, [] => by simp [fits]
  | r :: rs, c :: cs => by
    have ih := fits_iff rs cs
    show (decide _ && fits rs cs) = true ↔ _
    rw [Bool.and_eq_true, decide_eq_true_iff, ih]
    constructor
    · rintro ⟨h1, h2, h3⟩
      refine ⟨by simp [h2], fun i a b => ?_⟩
      cases i with
      | zero => exact h1
      | succ i => exact h3 i (by simpa using a) (by simpa using b)
    · rintro ⟨h1, h2⟩
      exact ⟨h2 0 (by simp) (by simp), by simpa using h1, fun i a b => h2 (i + 1) (by simpa using a) (by simpa using b)⟩
end Sp
theorem RowG.cells {w : World} {g : Nat} {r : List (Int × Int)} (h : RowG w g r) (k : Nat) (hk : k < r.length) : w.cell? ⟨g, k * 2, none⟩ = some (.int .i64 r[k].1) ∧ w.cell? ⟨g, k * 2 + 1, none⟩ = some (.int .i64 r[k].2) := by
  have a := World.rowIs.cell h (i := k * 2) (by omega)
  have b := World.rowIs.cell h (i := k * 2 + 1) (by omega)
  rw [Sp.cellAt_lo r k hk] at a
  rw [Sp.cellAt_hi r k hk] at b
  exact ⟨a, b⟩
theorem RowG.below {w w' : World} {B g : Nat} {r : List (Int × Int)} (h : RowG w g r) (hb : Below B w w') (hB : g < B) : RowG w' g r := h.of_block (hb.block g hB)

end Go.Proofs.Ytpoeklgoepjikaa

/-
  The document's own Holds, Characters and Bytes; the fixed answers.
-/
namespace Go.Proofs.Ytpoeklgoepjikaa
open Go.RowKit

theorem RowsO.form {w : World} {B : Nat} {v : Value} {gs : List Nat} {L : List (List (Int × Int))} (h : RowsO w B v gs L) : ∃ a cap, v = .slice a L.length cap ∧ L.length ≤ cap ∧ cap ≤ 9223372036854775807 ∧ (0 < L.length → ∃ g, a = some ⟨g, 0, none⟩ ∧ B ≤ g ∧ g < w.heap.size ∧
    ∀ j (h1 : j < gs.length) (h2 : j < L.length), w.cell? ⟨g, j, none⟩ = some (.slice (some ⟨gs[j], 0, none⟩) L[j].length L[j].length)) := by
  rcases h.own.2 with ⟨h1, h0⟩ | ⟨g, cap, cur, h1, hg, hh, hnc, hcp, hcs, htake⟩
  · exact ⟨none, 0, by rw [h1, h0], by omega, by omega, fun h => by omega⟩
  · subst h1
    have hown : w.ownsRow B 40 1 (.slice (some ⟨g, 0, none⟩) L.length cap) L.length (rowVs gs L) := h.own
    refine ⟨_, cap, rfl, hnc, by unfold maxLen at hcp; omega, fun _ => ⟨g, rfl, hg, (hown.lt g rfl).2, fun j a b => ?_⟩⟩
    rw [hown.cellAt j (by omega), rowVs_at j a b]
theorem count_step {α : Type} (p : α → Bool) (l : List α) (k : Nat) (h : k < l.length) : (((l.take (k + 1)).filter p).length : Int) = ((l.take k).filter p).length + (if p l[k] = true then 1 else 0) := by
  rw [List.take_succ_eq_append_getElem h, List.filter_append]
  by_cases e : p l[k] = true <;> simp [e]

theorem bytes_any (c : Int) (w : World) :
    Calls Try.prog 7 #[.int .i64 c] w fun e w' => e = .returned (.string (Sp.txt c)) ∧ Below w.heap.size w w' := by
  have H1 : Hid (∀ w : World, Calls Try.prog 15 #[.slice (some ⟨w.heap.size, 0, none⟩) 1 1] (w.alloc (.cells #[.int .i64 c] 3)) fun e w' => e = .returned (.tuple #[.string (Sp.txt c), .int .i64 (Ut.encE [c])]) ∧ Below (w.alloc (.cells #[.int .i64 c] 3)).heap.size (w.alloc (.cells #[.int .i64 c] 3)) w') := fun w => encodeR_any _ _ [c] (ints_lit w [c] (by simp)) (by simp)
  generalize Sp.txt c = s at *
  generalize Ut.encE [c] = e1 at *
  go_enter Try.func7, Try.ntmps7
  go_wp2_with fail
  refine (H1.out w).mono ?_
  rintro e w1 ⟨rfl, hb1⟩
  have HB1 : Hid (Below w.heap.size w w1) := ((Below.refl _ _).alloc (Nat.le_refl _) _).trans (hb1.mono (by simp))
  clear hb1
  go_wp2_with fail
  go_ret
  exact ⟨rfl, HB1.out⟩
namespace Sp
/-- How many characters of a part are from lo to hi. -/
def part (lo hi f l : Int) : Int := if max lo f ≤ min hi l then min hi l - max lo f + 1 else 0
theorem chars_parts (lo hi : Int) : chars lo hi = part lo hi 0 55295 + part lo hi 57344 1114111 := rfl
theorem part_bd (lo hi f l : Int) (h0 : 0 ≤ f) (h1 : l ≤ 1114111) : 0 ≤ part lo hi f l ∧ part lo hi f l ≤ 1114112 := by
  unfold part
  split <;> omega
def charsUpto (lo hi : Int) (t : Nat) : Int := if t = 0 then 0 else if t = 1 then part lo hi 0 55295 else chars lo hi
end Sp
end Go.Proofs.Ytpoeklgoepjikaa

/-
  The fixed answers; SpansHold.
-/
namespace Go.Proofs.Ytpoeklgoepjikaa
open Go.RowKit

namespace Sp
theorem rows_awake : rows 128 2047 = [[(194, 223), (128, 191)]] := by decide +kernel
theorem rows_none : rows 5 4 = [] := by decide +kernel
end Sp
set_option maxRecDepth 100000 in
set_option maxHeartbeats 1000000 in
theorem awake_any5 (w : World) : Calls Try.prog 4 #[] w fun e w' => e = .returned (.bool true) ∧ Below w.heap.size w w' := by
  have H1 := Lib.hid (rows_any 128 2047 w)
  have H2 := Lib.hid (fun w : World => rows_any 5 4 w)
  rw [Sp.rows_awake] at H1
  rw [Sp.rows_none] at H2
  go_enter Try.func4, Try.ntmps4
  go_wp2_with fail
  refine H1.out.mono ?_
  rintro e w1 ⟨v, gs, rfl, hO, hb1⟩
  obtain ⟨a, cap, rfl, _, _, hform⟩ := hO.form
  obtain ⟨g, rfl, _, hg, hcell⟩ := hform (by simp)
  have hl := hO.len
  obtain ⟨g0, rfl⟩ : ∃ g0, gs = [g0] := List.length_eq_one_iff.1 hl
  have c0 : w1.cell? ⟨g, 0, none⟩ = some (.slice (some ⟨g0, 0, none⟩) 2 2) := hcell 0 (by simp) (by simp)
  have hR := (hO.row 0 (by simp) (by simp)).2
  have r0 : w1.cell? ⟨g0, 0, none⟩ = some (.int .i64 194) := (hR.cells 0 (by simp)).1
  have r1 : w1.cell? ⟨g0, 1, none⟩ = some (.int .i64 223) := (hR.cells 0 (by simp)).2
  have r2 : w1.cell? ⟨g0, 2, none⟩ = some (.int .i64 128) := (hR.cells 1 (by simp)).1
  have r3 : w1.cell? ⟨g0, 3, none⟩ = some (.int .i64 191) := (hR.cells 1 (by simp)).2
  have HB1 := Lib.hid hb1
  clear hb1 hR hcell hform hO hl
  go_wp2_with fail
  refine (H2.out w1).mono ?_
  rintro e w2 ⟨v2, gs2, rfl, hO2, hb2⟩
  obtain ⟨a2, cap2, rfl, _, _, _⟩ := hO2.form
  have HB2 : Hid (Below w.heap.size w w2) := HB1.out.trans (hb2.mono HB1.out.size)
  clear hO2 hb2
  go_wp2_with fail
  go_ret
  exact ⟨rfl, HB2.out⟩
end Go.Proofs.Ytpoeklgoepjikaa

/-
  Lead between states that are not there; SpansNone.
-/
namespace Go.Proofs.Ytpoeklgoepjikaa
open Go.RowKit

theorem LoO.los {w : World} {B : Nat} {v : Value} {vals : List LoV} {L : List Au.Lo} (h : LoO w B v vals L) (F : Nat → Prop) (hF : ∀ g, B ≤ g → F g) : LoS F w v L := by
  have hl := h.each.len
  rcases h.own.2 with ⟨h1, h0⟩ | ⟨g, cap, cur, h1, hg, hh, hnc, hcp, hcs, htake⟩
  · exact ⟨none, 0, by rw [h1, h0], by omega, by omega, fun h => by omega⟩
  · subst h1
    have hown : w.ownsRow B 25 3 (.slice (some ⟨g, 0, none⟩) L.length cap) L.length (losV vals) := h.own
    refine ⟨_, cap, rfl, hnc, by unfold maxLen at hcp; omega, fun _ => ⟨g, 0, rfl, (hown.lt g rfl).2, hF g hg, fun j hj => ?_⟩⟩
    obtain ⟨a1, a2, a3⟩ := losV_at vals j (by omega)
    obtain ⟨e1, e2, e3⟩ := h.each.each j (by omega) hj
    rw [Nat.zero_add]
    refine ⟨?_, ⟨vals[j].2.1, ?_, e2.arcs F hF⟩, vals[j].2.2, ?_, e3.nums F hF⟩
    · rw [hown.cellAt _ (by omega), a1, e1]
    · rw [hown.cellAt _ (by omega), a2]
    · rw [hown.cellAt _ (by omega), a3]
/-- Is a number the place of one of n. -/
def inB (i : Int) (n : Nat) : Bool := decide (0 ≤ i ∧ i < n)
set_option maxHeartbeats 1000000 in
theorem isPlace_any5 (i : Int) (n : Nat) (w : World) : Calls Try.prog 13 #[.int .i64 i, .int .i64 (n : Int)] w fun e w' => e = .returned (.bool (inB i n)) ∧ w = w' := by
  by_cases h1 : 0 ≤ i
  · by_cases h2 : i < n
    · have hd : Hid (inB i n = true) := decide_eq_true ⟨h1, h2⟩
      go_enter Try.func13, Try.ntmps13
      go_wp2_with fail
      go_ret
      exact ⟨ret_bool hd.out.symm, rfl⟩
    · have hd : Hid (inB i n = false) := decide_eq_false fun h => h2 h.2
      go_enter Try.func13, Try.ntmps13
      go_wp2_with fail
      go_ret
      exact ⟨ret_bool hd.out.symm, rfl⟩
  · have hd : Hid (inB i n = false) := decide_eq_false fun h => h1 h.1
    go_enter Try.func13, Try.ntmps13
    go_wp2_with fail
    go_ret
    exact ⟨ret_bool hd.out.symm, rfl⟩
set_option maxHeartbeats 1000000 in
set_option maxRecDepth 100000 in
theorem leadNone_any (F : Nat → Prop) (w : World) (v : Value) (L : List Au.Lo) (h : LoS F w v L) (hL : L.length ≤ 1000) (hs : ∀ s ∈ L, s.arcs.length * 24 ≤ 140737488355328 ∧ s.free.length * 8 ≤ 140737488355328) (from_ to_ lo hi : Int)
    (hno : ¬ ((0 ≤ from_ ∧ from_ < L.length) ∧ (0 ≤ to_ ∧ to_ < L.length))) :
    Calls Try.prog 6 #[v, .int .i64 from_, .int .i64 to_, .int .i64 lo, .int .i64 hi] w fun e w' => ∃ v' vals, e = .returned v' ∧ LoO w' w.heap.size v' vals L ∧ Below w.heap.size w w' := by
  have HC := Lib.hid (copyOf_any F w v L h hL hs)
  obtain ⟨a, cap, rfl, _, hcp, _⟩ := h
  have H1 := Lib.hid (fun w => isPlace_any5 from_ L.length w)
  have H2 := Lib.hid (fun w => isPlace_any5 to_ L.length w)
  have HNO : Hid (inB from_ L.length = true → inB to_ L.length = true → False) := fun h1 h2 => hno ⟨of_decide_eq_true h1, of_decide_eq_true h2⟩
  clear hno hs
  generalize inB from_ L.length = b1 at *
  generalize inB to_ L.length = b2 at *
  obtain ⟨n, hn⟩ : ∃ n, n = L.length := ⟨_, rfl⟩
  have HN := Lib.hid hn
  rw [← hn] at hL HC H1 H2 ⊢
  clear hn
  go_enter Try.func6, Try.ntmps6
  go_wp2_with fail
  refine HC.out.mono ?_
  rintro e w1 ⟨v', vals, rfl, hO, hb⟩
  have HO := Lib.hid hO
  have HB := Lib.hid hb
  clear hO hb
  go_wp2_with fail
  refine (H1.out w1).mono ?_
  rintro e w2 ⟨rfl, rfl⟩
  cases b1
  · go_wp2_with fail
    go_ret
    exact ⟨_, vals, rfl, HO.out, HB.out⟩
  · go_wp2_with fail
    refine (H2.out w1).mono ?_
    rintro e w2 ⟨rfl, rfl⟩
    cases b2
    · go_wp2_with fail
      go_ret
      exact ⟨_, vals, rfl, HO.out, HB.out⟩
    · exact (HNO.out trivial rfl).elim
end Go.Proofs.Ytpoeklgoepjikaa

/-
  Loose states of the call's own grow: a state more, an arc more of one.
-/
namespace Go.Proofs.Ytpoeklgoepjikaa
open Go.RowKit

theorem LoO.form {w : World} {B : Nat} {v : Value} {vals : List LoV} {L : List Au.Lo} (h : LoO w B v vals L) (h0 : 0 < L.length) : ∃ g cap, v = .slice (some ⟨g, 0, none⟩) L.length cap ∧ L.length ≤ cap ∧ cap ≤ 9223372036854775807 ∧ B ≤ g ∧ g < w.heap.size ∧ (∃ c fz, w.heap[g]? = some (Obj.cells c 25 fz)) ∧ (∀ j, w.frozen? ⟨g, j, none⟩ = false) ∧
    ∀ j (h1 : j < vals.length), w.cell? ⟨g, j * 3, none⟩ = some (.bool vals[j].1) ∧ w.cell? ⟨g, j * 3 + 1, none⟩ = some vals[j].2.1 ∧ w.cell? ⟨g, j * 3 + 2, none⟩ = some vals[j].2.2 := by
  have hl := h.each.len
  rcases h.own.2 with ⟨_, h1⟩ | ⟨g, cap, cur, h1, hg, hh, hnc, hcp, hcs, htake⟩
  · omega
  · subst h1
    have hown : w.ownsRow B 25 3 (.slice (some ⟨g, 0, none⟩) L.length cap) L.length (losV vals) := h.own
    refine ⟨g, cap, rfl, hnc, by unfold maxLen at hcp; omega, hg, (hown.lt g rfl).2, ⟨_, _, hh⟩, fun j => by simp [World.frozen?, hh], fun j hj => ?_⟩
    obtain ⟨a1, a2, a3⟩ := losV_at vals j hj
    exact ⟨(hown.cellAt _ (by omega)).trans a1, (hown.cellAt _ (by omega)).trans a2, (hown.cellAt _ (by omega)).trans a3⟩
theorem LoO.kind {w : World} {B : Nat} {v : Value} {vals : List LoV} {L : List Au.Lo} (h : LoO w B v vals L) : ∀ g, v.ownBlock = some g → B ≤ g ∧ g < w.heap.size ∧ ∃ c fz, w.heap[g]? = some (Obj.cells c 25 fz) := by
  intro g hv
  refine ⟨(World.ownsRow.lt h.own g hv).1, (World.ownsRow.lt h.own g hv).2, ?_⟩
  rcases h.own.2 with ⟨h1, _⟩ | ⟨g', cap, cur, h1, hg, hh, _⟩
  · rw [h1] at hv; cases hv
  · rw [h1] at hv
    obtain rfl : g' = g := by simpa [Value.ownBlock] using hv
    exact ⟨_, _, hh⟩
theorem LoO.keep {w w' : World} {B : Nat} {v : Value} {vals : List LoV} {L : List Au.Lo} (h : LoO w B v vals L) (e : ∀ k, k < w.heap.size → w'.heap[k]? = w.heap[k]?) : LoO w' B v vals L :=
  ⟨ownsRow_keep h.own fun k hv => e k (h.kind k hv).2.1, h.each.keep fun g _ _ _ hg _ _ => e g (Array.getElem?_eq_some_iff.1 hg).1⟩
/-- A block as a row of its own cells. -/
theorem loose_new (w : World) : ∀ j u, [Value.bool false, .slice none 0 0, .slice none 0 0][j]? = some u → (w.alloc (.cells #[.bool false, .slice none 0 0, .slice none 0 0] 25)).cell? ((⟨w.heap.size, 0, none⟩ : Addr).add j) = some u := by
  intro j u hj
  match j, hj with
  | 0, hj => simp at hj; subst hj; simp [Addr.add]
  | 1, hj => simp at hj; subst hj; simp [Addr.add]
  | 2, hj => simp at hj; subst hj; simp [Addr.add]
/-- A state more, that leads nowhere yet. -/
theorem LoO.push {w w1 : World} {B : Nat} {v v' : Value} {vals : List LoV} {L : List Au.Lo} {o : Obj} (h : LoO w B v vals L)
    (h1 : w1.ownsRow B 25 3 v' (L.length + 1) (losV vals ++ [.bool false, .slice none 0 0, .slice none 0 0])) (hg : (w.alloc o).grownBy w1 v.ownBlock) : LoO w1 B v' (vals ++ [(false, .slice none 0 0, .slice none 0 0)]) (L ++ [⟨false, [], []⟩]) := by
  have hl := h.each.len
  have keep : ∀ (k : Nat) (c : Array Value) (t : TypeId) (fz : Nat × Nat), w.heap[k]? = some (Obj.cells c t fz) → t ≠ 25 → w1.heap[k]? = w.heap[k]? := fun k c t fz hk ht => by
    obtain ⟨hlk, _⟩ := Array.getElem?_eq_some_iff.1 hk
    rw [hg.block k (by simp; omega) (fun e => ?_), Go.Deep.blk_alloc_lt _ _ _ hlk]
    obtain ⟨_, _, c', fz', hc'⟩ := h.kind k e.symm
    exact kinds_neY hk hc' ht rfl
  refine ⟨?_, ?_⟩
  · rw [show losV vals ++ [Value.bool false, .slice none 0 0, .slice none 0 0] = losV (vals ++ [(false, .slice none 0 0, .slice none 0 0)]) from losV_snoc vals (false, .slice none 0 0, .slice none 0 0)] at h1
    simpa using h1
  · have h' : LoEach w1 B vals L := h.each.keep fun g c t fz hg' ht _ => keep g c t fz hg' (by rcases ht with rfl | rfl <;> decide)
    refine ⟨by simp [hl], fun j a b => ?_, fun i j hi hj hne g hgi hgj => ?_⟩
    · by_cases e : j < vals.length
      · rw [List.getElem_append_left e, List.getElem_append_left (by omega)]
        exact h'.each j e (by omega)
      · have e' : j = vals.length := by simp at a; omega
        subst e'
        have e2 : (L ++ [(⟨false, [], []⟩ : Au.Lo)])[vals.length] = ⟨false, [], []⟩ := by simp only [hl, List.getElem_append_right (Nat.le_refl _), Nat.sub_self, List.getElem_cons_zero]
        rw [e2]
        simp only [List.getElem_append_right (Nat.le_refl _), Nat.sub_self, List.getElem_cons_zero]
        exact ⟨trivial, World.ownsRow_nil _ _ _ _, World.ownsRow_nil _ _ _ _⟩
    · by_cases e1 : i < vals.length
      · rw [List.getElem_append_left e1] at hgi
        by_cases e2 : j < vals.length
        · rw [List.getElem_append_left e2] at hgj
          exact h'.apart i j e1 e2 hne g hgi hgj
        · have e' : j = vals.length := by simp at hj; omega
          subst e'
          simp [Value.ownBlock] at hgj
      · have e' : i = vals.length := by simp at hi; omega
        subst e'
        simp [Value.ownBlock] at hgi
/-- 'append(n, Loose)' of one that leads nowhere. -/
theorem wpList_pushLo {ops : Array Oper} {rest : List Oper} {o : Oper} {a : Act} {Q : Exit → Act → World → Prop} {w : World} (hgd : o.guard = none) (s x : Operand)
    (ho : o.op = .call { callee := .builtin .append, args := #[s, x], argTypes := #[28, 28] })
    (B : Nat) (v : Value) (vals : List LoV) (L : List Au.Lo) (hs : a.eval s = v) (h : LoO w B v vals L) (hB : B ≤ w.heap.size) (hx : a.eval x = .slice (some ⟨w.heap.size, 0, none⟩) 1 1) (hb : L.length + 1 ≤ 1099511627776)
    (hk : ∀ v' w', LoO w' B v' (vals ++ [(false, .slice none 0 0, .slice none 0 0)]) (L ++ [⟨false, [], []⟩]) → (w.alloc (.cells #[.bool false, .slice none 0 0, .slice none 0 0] 25)).grownBy w' v.ownBlock → wpList Try.prog ops Q rest (a.put o.dst v') w') :
    wpList Try.prog ops Q (o :: rest) a (w.alloc (.cells #[.bool false, .slice none 0 0, .slice none 0 0] 25)) := by
  obtain ⟨ii, hi, hz0, hz1, hz2⟩ := info_parts Try.infoLo
  refine wpList_append_own _ hgd s x 28 ho B 25 ii _ 3 56 Try.underlying28 hi hz0 hz1 hz2 rfl (by decide) _ _ _ hs (h.own.alloc _) ⟨w.heap.size, 0, none⟩ 1 1 [.bool false, .slice none 0 0, .slice none 0 0] hx rfl (loose_new w) ?_ (by unfold maxLen; omega) (by omega) (by simp; omega) ?_
  · intro u hu
    simp only [List.mem_cons, List.not_mem_nil, or_false] at hu
    rcases hu with rfl | rfl | rfl <;> rfl
  · intro v' w' h1 h2 _
    exact hk v' w' (h.push h1 h2) h2
/-- An arc more of a state: its list has grown, and is stored. -/
theorem LoO.arc {w w1 : World} {B G cap p : Nat} {vals : List LoV} {L : List Au.Lo} {v5 : Value} {arc : Au.Arc} (h : LoO w B (.slice (some ⟨G, 0, none⟩) L.length cap) vals L) (hp : p < L.length) (hpv : p < vals.length)
    (h1 : OwnA w1 B v5 (L[p].arcs ++ [arc])) (keep : ∀ g, g < w.heap.size → vals[p].2.1.ownBlock ≠ some g → w1.heap[g]? = w.heap[g]?) (hnew : ∀ g, v5.ownBlock = some g → vals[p].2.1.ownBlock = some g ∨ w.heap.size ≤ g) :
    LoO (w1.setCell ⟨G, p * 3 + 1, none⟩ v5) B (.slice (some ⟨G, 0, none⟩) L.length cap) (vals.set p (vals[p].1, v5, vals[p].2.2)) (Sp.addArc L p arc) ∧
      (∀ (g : Nat) (c : Array Value) (t : TypeId) (fz : Nat × Nat), w.heap[g]? = some (Obj.cells c t fz) → t ≠ 25 → t ≠ 44 → (w1.setCell ⟨G, p * 3 + 1, none⟩ v5).heap[g]? = w.heap[g]?) ∧
      (∀ g, g < B → g < w.heap.size → (w1.setCell ⟨G, p * 3 + 1, none⟩ v5).heap[g]? = w.heap[g]?) ∧ w1.heap[G]? = w.heap[G]? := by
  have hl := h.each.len
  obtain ⟨hGB, hGl, cG, fzG, hG⟩ := h.kind G rfl
  obtain ⟨q1, q2, q3⟩ := h.each.each p hpv hp
  have hrow : ∀ g, vals[p].2.1.ownBlock = some g → ∃ c fz, w.heap[g]? = some (Obj.cells c 44 fz) := q2.kind
  have keepT : ∀ (g : Nat) (c : Array Value) (t : TypeId) (fz : Nat × Nat), w.heap[g]? = some (Obj.cells c t fz) → t ≠ 44 → w1.heap[g]? = w.heap[g]? := fun g c t fz hg' ht => keep g (Array.getElem?_eq_some_iff.1 hg').1 fun e => by
    obtain ⟨c', fz', hc'⟩ := hrow g e
    exact kinds_neY hg' hc' ht rfl
  have hG1 := keepT G cG _ fzG hG (by decide)
  have far : ∀ g, g ≠ G → (w1.setCell ⟨G, p * 3 + 1, none⟩ v5).heap[g]? = w1.heap[g]? := fun g hne => Go.Deep.blk_setCell_other _ _ _ _ hne
  refine ⟨⟨?_, ?_⟩, fun g c t fz hg' h2 h3 => (far g (kinds_neY hg' hG h2)).trans (keepT g c t fz hg' h3), fun g hgB hgl => (far g (by omega)).trans (keep g hgl fun e => by have := (q2.lt g e).1; omega), hG1⟩
  · have hown1 : w1.ownsRow B 25 3 (.slice (some ⟨G, 0, none⟩) L.length cap) L.length (losV vals) := ownsRow_keep h.own fun k hk => by
      obtain rfl : G = k := by simpa [Value.ownBlock] using hk
      exact hG1
    have hs := (hown1.stored (p * 3 + 1) v5).1
    have e : (losV vals).set (p * 3 + 1) v5 = losV (vals.set p (vals[p].1, v5, vals[p].2.2)) := by
      clear hs hown1 h1 hnew keep keepT far hrow q1 q2 q3 h hl hp
      induction vals generalizing p with
      | nil => simp at hpv
      | cons x t ih =>
        cases p with
        | zero => rfl
        | succ p =>
          have hp' : p < t.length := by simpa using hpv
          have := ih hp'
          simp only [List.set_cons_succ, List.getElem_cons_succ]
          show (_ :: _ :: _ :: losV t).set ((p + 1) * 3 + 1) v5 = _ :: _ :: _ :: losV _
          rw [show (p + 1) * 3 + 1 = p * 3 + 1 + 1 + 1 + 1 by omega, List.set_cons_succ, List.set_cons_succ, List.set_cons_succ, this]
    rw [e] at hs
    rw [Sp.addArc_length]
    exact hs
  · have hset : ∀ j (hj : j < (vals.set p (vals[p].1, v5, vals[p].2.2)).length), (vals.set p (vals[p].1, v5, vals[p].2.2))[j] = if p = j then (vals[p].1, v5, vals[p].2.2) else vals[j]'(by simpa using hj) := fun j hj => by rw [List.getElem_set]
    have hadd : ∀ j (hj : j < (Sp.addArc L p arc).length), (Sp.addArc L p arc)[j] = if p = j then ⟨(L[j]'(by simpa [Sp.addArc_length] using hj)).fin, (L[j]'(by simpa [Sp.addArc_length] using hj)).arcs ++ [arc], (L[j]'(by simpa [Sp.addArc_length] using hj)).free⟩ else L[j]'(by simpa [Sp.addArc_length] using hj) := fun j hj => by
      have := Sp.addArc_at L p arc j
      rw [List.getElem?_eq_getElem hj, List.getElem?_eq_getElem (by simpa [Sp.addArc_length] using hj)] at this
      simpa using this
    have hkind1 : ∀ g, v5.ownBlock = some g → g ≠ G := fun g hg' e => by
      obtain ⟨c, fz, hc⟩ := h1.kind g hg'
      rw [e, hG1, hG] at hc
      injection hc with hc
      injection hc with _ h2
      exact absurd h2 (by decide)
    refine ⟨by rw [List.length_set, Sp.addArc_length]; exact hl, fun j a b => ?_, fun i j hi hj hne g hgi hgj => ?_⟩
    · rw [hset j a, hadd j b]
      have ha : j < vals.length := by simpa using a
      obtain ⟨r1, r2, r3⟩ := h.each.each j ha (by omega)
      have hf3 : OwnZ (w1.setCell ⟨G, p * 3 + 1, none⟩ v5) B vals[j].2.2 (L[j]'(by omega)).free := ownsRow_keep r3 fun k hk => by
        obtain ⟨_, hkl, c, fz, hc⟩ := r3.kind k hk
        rw [far k (kinds_neY hc hG (by decide)), keepT k c _ fz hc (by decide)]
      by_cases e : p = j
      · subst e
        rw [if_pos rfl, if_pos rfl]
        exact ⟨r1, h1.keep fun k hk => far k (hkind1 k hk), hf3⟩
      · rw [if_neg e, if_neg e]
        refine ⟨r1, r2.keep fun k hk => ?_, hf3⟩
        obtain ⟨c, fz, hc⟩ := r2.kind k hk
        rw [far k (kinds_neY hc hG (by decide)), keep k (r2.lt k hk).2 fun e2 => h.each.apart p j hpv ha e k e2 hk]
    · have hi' : i < vals.length := by simpa using hi
      have hj' : j < vals.length := by simpa using hj
      rw [hset i hi] at hgi
      rw [hset j hj] at hgj
      have old : ∀ k (hk : k < vals.length) g, vals[k].2.1.ownBlock = some g → g < w.heap.size := fun k hk g hg' => ((h.each.each k hk (by omega)).2.1.lt g hg').2
      by_cases e1 : p = i
      · rw [if_pos e1] at hgi
        have e2 : ¬ p = j := fun e => hne (e1.symm.trans e)
        rw [if_neg e2] at hgj
        rcases hnew g hgi with hn | hn
        · exact h.each.apart p j hpv hj' e2 g hn hgj
        · have := old j hj' g hgj
          omega
      · rw [if_neg e1] at hgi
        by_cases e2 : p = j
        · rw [if_pos e2] at hgj
          rcases hnew g hgj with hn | hn
          · exact h.each.apart p i hpv hi' e1 g hn hgi
          · have := old i hi' g hgi
            omega
        · rw [if_neg e2] at hgj
          exact h.each.apart i j hi' hj' hne g hgi hgj
end Go.Proofs.Ytpoeklgoepjikaa

/-
  What leadBy answers: the texts of a row lead from one state to another.
-/
namespace Go.Proofs.Ytpoeklgoepjikaa
open Go.RowKit

/-- What is neither a list of loose states nor one of arcs is as it was. -/
def KeptT (w w' : World) : Prop := ∀ (g : Nat) (c : Array Value) (t : TypeId) (fz : Nat × Nat), w.heap[g]? = some (Obj.cells c t fz) → t ≠ 25 → t ≠ 44 → w'.heap[g]? = w.heap[g]?
theorem KeptT.refl (w : World) : KeptT w w := fun _ _ _ _ _ _ _ => rfl
theorem KeptT.trans {w w' w'' : World} (h : KeptT w w') (k : KeptT w' w'') : KeptT w w'' := fun g c t fz hg h1 h2 => by
  have e := h g c t fz hg h1 h2
  exact (k g c t fz (e.trans hg) h1 h2).trans e
theorem KeptT.row {w w' : World} (h : KeptT w w') {g : Nat} {r : List (Int × Int)} (hr : RowG w g r) : RowG w' g r := by
  obtain ⟨c, fz, hc⟩ := hr.kind
  exact hr.of_block (h g c _ fz hc (by decide) (by decide))
theorem KeptT.alloc (w : World) (o : Obj) : KeptT w (w.alloc o) := fun _ _ _ _ hg _ _ => Go.Deep.blk_alloc_lt _ _ _ (Array.getElem?_eq_some_iff.1 hg).1
/-- One arc more, in a region that draws its order. -/
theorem step_pushA {ops : Array Oper} {o : Oper} {a : Act} {K : Act → World → Prop} {Q : Exit → Act → World → Prop} {E : Prop} {w W0 : World} (hgd : o.guard = none) (s x : Operand)
    (ho : o.op = .call { callee := .builtin .append, args := #[s, x], argTypes := #[22, 22] }) (B : Nat) (v : Value) (l : List Au.Arc) (hs : a.eval s = v) (h : OwnA w B v l) (hW : Below w.heap.size w W0) (hB : B ≤ w.heap.size) (p q r : Int)
    (ad : Addr) (hnews : ∀ j u, [Value.int .i64 p, .int .i64 q, .int .i64 r][j]? = some u → W0.cell? (ad.add j) = some u) (hx : a.eval x = .slice (some ad) 1 1) (hb : l.length + 1 ≤ 1099511627776)
    (hk : ∀ g cap w', OwnA w' B (.slice (some ⟨g, 0, none⟩) (l.length + 1) cap) (l ++ [⟨p, q, r⟩]) → W0.grownBy w' v.ownBlock → (v.ownBlock = some g ∨ w.heap.size ≤ g) → K (a.put o.dst (.slice (some ⟨g, 0, none⟩) (l.length + 1) cap)) w') :
    if Region.wanted o (yielded ops a.tmps) = true then Oper.wp Try.prog o a W0 K Q else E := by
  obtain ⟨ii, hi, hz0, hz1, hz2⟩ := info_parts Try.infoA
  have hlt := h.lt
  refine step_append_lies _ hgd s x 22 ho B 44 ii _ 3 24 Try.underlying22 hi hz0 hz1 hz2 rfl (by decide) v l.length (arcsV l) hs (ownsRow_keep h fun k hk => hW.block k (hlt k hk).2) ad 1 1 [.int .i64 p, .int .i64 q, .int .i64 r] hx rfl hnews (one_arc p q r) (by omega) (by unfold maxLen; omega) (by omega) (Nat.le_trans hB hW.size) _ rfl ?_
  intro g cap w' h2 h3 h4 _
  refine hk g cap w' ?_ h3 ?_
  · unfold OwnA
    rw [arcsV_snoc l ⟨p, q, r⟩] at h2
    simpa using h2
  · rcases h4 with h4 | h4
    · exact .inl h4
    · have := hW.size
      exact .inr (by omega)
theorem new_arcD (w : World) (a b c : Int) : ∀ j u, [Value.int .i64 a, .int .i64 b, .int .i64 c][j]? = some u → ((w.alloc (.cells #[.int .i64 a, .int .i64 b, .int .i64 c] 44)).drew).cell? ((⟨w.heap.size, 0, none⟩ : Addr).add j) = some u := fun j u h => new_arc w a b c j u h
namespace Sp
theorem drop_last {row : List (Int × Int)} {i : Nat} (h : i + 1 = row.length) : row.drop i = [row[i]'(by omega)] := by
  rw [List.drop_eq_getElem_cons (by omega), List.drop_of_length_le (by omega)]
theorem drop_more {row : List (Int × Int)} {i : Nat} (h : i + 1 < row.length) : ∃ r' rs, row.drop i = row[i]'(by omega) :: r' :: rs ∧ row.drop (i + 1) = r' :: rs := by
  rw [List.drop_eq_getElem_cons (by omega)]
  exact ⟨row[i + 1], row.drop (i + 2), by rw [List.drop_eq_getElem_cons h], by rw [List.drop_eq_getElem_cons h]⟩
theorem addArc_arcs {n : List Au.Lo} {p : Nat} {a : Au.Arc} {X : Nat} (h : ∀ s ∈ n, s.arcs.length ≤ X) : ∀ s ∈ addArc n p a, s.arcs.length ≤ X + 1 := by
  intro s hs
  obtain ⟨i, hi⟩ := List.mem_iff_getElem?.1 hs
  rw [addArc_at] at hi
  obtain ⟨s0, h0, rfl⟩ := Option.map_eq_some_iff.1 hi
  have := h s0 (List.mem_of_getElem? h0)
  split
  · simp; omega
  · omega
end Sp

theorem v_form {w : World} {B nl : Nat} {v : Value} {vals : List LoV} {n : List Au.Lo} {s : Au.Lo} (h : LoO w B v vals (n ++ [s])) (hn : nl = n.length) : ∃ a cp, v = .slice a (nl + 1) cp := by
  obtain ⟨g4, cp4, e4, _⟩ := h.form (by simp)
  rw [e4]
  exact ⟨some ⟨g4, 0, none⟩, cp4, by simp [hn]⟩
set_option maxRecDepth 100000 in
set_option maxHeartbeats 4000000 in
theorem leadBy_any (w : World) (B : Nat) (v : Value) (vals : List LoV) (L : List Au.Lo) (h : LoO w B v vals L) (p q g m : Nat) (row : List (Int × Int)) (hp : p < L.length) (hrow : RowG w g row) (hm : row.length = m) (hm4 : m ≤ 4) (hL : L.length ≤ 1000000) (X : Nat) (hX : ∀ s ∈ L, s.arcs.length ≤ X) (hX2 : X ≤ 549755813888) (hB : B ≤ w.heap.size) (hbd : ∀ r ∈ row, 0 ≤ r.1 ∧ r.1 ≤ r.2 ∧ r.2 ≤ 255) :
    Calls Try.prog 14 #[v, .int .i64 p, .int .i64 q, .slice (some ⟨g, 0, none⟩) m m] w fun e w' => ∃ v' vals', e = .returned v' ∧ LoO w' B v' vals' (Sp.leadBy q L p row) ∧ Below B w w' ∧ KeptT w w' := by
  have HM := Lib.hid hm
  have HR := Lib.hid hrow
  have HO := Lib.hid h
  have HX := Lib.hid hX
  have HBD := Lib.hid hbd
  clear hm hrow h hX hbd
  go_enter Try.func14, Try.ntmps14
  go_wp2_with fail
  go_loopg [0, 1, 14] m (fun g' s0 s1 s14 wx => ∃ (i pp : Nat) (vv : Value) (vals : List LoV) (n : List Au.Lo), i ≤ m ∧ g' = m - i ∧ vv = s0 ∧ s1 = .int .i64 pp ∧ s14 = .int .i64 i ∧ n.length ≤ L.length + i ∧ Hid (i < m → pp < n.length) ∧ Hid (LoO wx B vv vals n) ∧ Hid (Sp.leadBy q n pp (row.drop i) = Sp.leadBy q L p row) ∧ Hid (∀ s ∈ n, s.arcs.length ≤ X + i) ∧ Hid (Below B w wx) ∧ Hid (KeptT w wx))
  case atStart => exact ⟨0, p, _, vals, L, Nat.zero_le _, rfl, rfl, rfl, rfl, Nat.le_refl _, fun _ => hp, HO, rfl, HX, Below.refl _ _, KeptT.refl _⟩
  case round =>
    obtain ⟨i, pp, vv, vals, n, hi, rfl, rfl, rfl, rfl, hnl, hpp, hO, hE, hXi, hbel, hkt⟩ := hrel
    by_cases him : i < m
    · have j1 : (i : Int) < (m : Int) := by omega
      have hir : i < row.length := by rw [HM.out]; exact him
      have hpn := hpp.out him
      have HRW := Lib.hid (hkt.out.row HR.out)
      obtain ⟨c1, c2⟩ := HRW.out.cells i hir
      obtain ⟨x1, x2, x3⟩ := HBD.out row[i] (List.getElem_mem hir)
      have HSZ : Hid (B ≤ wr.heap.size) := Nat.le_trans hB hbel.out.size
      have HDL : Hid (i + 1 = m → row.drop i = [row[i]]) := fun e => Sp.drop_last (by rw [HM.out]; exact e)
      have HDM : Hid (i + 1 < m → ∃ r' rs, row.drop i = row[i] :: r' :: rs ∧ row.drop (i + 1) = r' :: rs) := fun e => Sp.drop_more (by rw [HM.out]; exact e)
      generalize row[i] = r at *
      obtain ⟨lo, hi'⟩ := r
      dsimp only at *
      have HBK : Hid ((wr.alloc (.cells #[.int .i64 lo, .int .i64 hi'] 42)).heap[wr.heap.size]? = some (Obj.cells #[.int .i64 lo, .int .i64 hi'] 42 (0, 0))) := Go.Deep.blk_alloc_new _ _
      have HO1 : Hid (LoO (wr.alloc (.cells #[.int .i64 lo, .int .i64 hi'] 42)) B vv vals n) := hO.out.keep fun k hk => Go.Deep.blk_alloc_lt _ _ _ hk
      have HB1 : Hid (Below B w (wr.alloc (.cells #[.int .i64 lo, .int .i64 hi'] 42))) := hbel.out.alloc HSZ.out _
      have HK1 : Hid (KeptT w (wr.alloc (.cells #[.int .i64 lo, .int .i64 hi'] 42))) := hkt.out.trans (KeptT.alloc _ _)
      obtain ⟨nl, hnle⟩ : ∃ nl, nl = n.length := ⟨_, rfl⟩
      have HNL := Lib.hid hnle
      obtain ⟨a0, cp0, rfl⟩ : ∃ a cp, vv = .slice a nl cp := by
        rw [hnle]
        obtain ⟨g0, cp0, h1, _⟩ := hO.out.form (by omega)
        exact ⟨_, _, h1⟩
      rw [← hnle] at hpn hnl
      clear hnle hO hbel hkt
      by_cases hlast : i + 1 = m
      case' pos =>
        have j2 : ¬ (i : Int) < (m : Int) - 1 := by omega
        go_wp2_with fail
        obtain ⟨bx, hbx⟩ : ∃ b, b = wr.heap.size := ⟨_, rfl⟩
        have HBX : Hid (B ≤ bx) := by show _ ≤ _; rw [hbx]; exact HSZ.out
        rw [← hbx] at HBK ⊢
        clear c1 c2 hbx
        generalize wr.alloc (.cells #[.int .i64 lo, .int .i64 hi'] 42) = wa at *
        obtain ⟨nx, hnx⟩ : ∃ nx, nx = q := ⟨_, rfl⟩
        have HEQ : Hid (Sp.leadBy q (Sp.addArc n pp ⟨lo, hi', (nx : Int)⟩) nx (row.drop (i + 1)) = Sp.leadBy q L p row) := by
          have e1 : row.drop (i + 1) = [] := List.drop_of_length_le (by rw [HM.out]; omega)
          show _ = _
          rw [← hE.out, HDL.out hlast, e1, hnx]
          rfl
        have HLT : Hid (i + 1 < m → nx < n.length) := fun e => by omega
        have HNB : nl ≤ L.length + (i + 1) := by omega
        rw [← hnx]
        have HNQ := Lib.hid hnx
        clear hnx
      case' neg =>
        have j2 : (i : Int) < (m : Int) - 1 := by omega
        have HPU := Lib.hid (fun (w' : World) (v' : Value) (hk : LoO w' B v' (vals ++ [(false, .slice none 0 0, .slice none 0 0)]) (n ++ [⟨false, [], []⟩])) => hk.form (by simp))
        go_wp2_with (at_builtin; go_loud ((refine wpList_pushLo rfl _ _ rfl B (.slice a0 nl cp0) vals n rfl HO1.out (Nat.le_trans HSZ.out (by simp)) (by rw [World.size_alloc]; rfl) (by have := HNL.out; omega) ?_)); intro v4 w4 ho4 hg4; have HG4 := Lib.hid hg4; obtain ⟨a0, cp0, rfl⟩ : ∃ a cp, v4 = .slice a (nl + 1) cp := v_form ho4 HNL.out; have HO4 := Lib.hid ho4; clear ho4 hg4)
        obtain ⟨bx, hbx⟩ : ∃ b, b = wr.heap.size := ⟨_, rfl⟩
        have HBX : Hid (B ≤ bx) := by show _ ≤ _; rw [hbx]; exact HSZ.out
        rw [← hbx] at HBK ⊢
        clear c1 c2 hbx
        generalize wr.alloc (.cells #[.int .i64 lo, .int .i64 hi'] 42) = wb at *
        have hkT : KeptT wb w4 := fun g c t fz hg h1 h2 => by
          have hgl := (Array.getElem?_eq_some_iff.1 hg).1
          refine (HG4.out.block g (by simp; omega) (fun e => ?_)).trans (Go.Deep.blk_alloc_lt _ _ _ hgl)
          obtain ⟨_, _, c', fz', hc'⟩ := HO1.out.kind g e.symm
          exact kinds_neY hg hc' h1 rfl
        have HBK2 : Hid (w4.heap[bx]? = some (Obj.cells #[.int .i64 lo, .int .i64 hi'] 42 (0, 0))) := (hkT bx _ _ _ HBK.out (by decide) (by decide)).trans HBK.out
        have HB4 : Hid (Below B w w4) := (HB1.out.alloc (Nat.le_trans hB HB1.out.size) _).grown HG4.out (by have := HB1.out.size; simp; omega) (fun j hj => (HO1.out.kind j hj).1)
        have HK4 : Hid (KeptT w w4) := HK1.out.trans hkT
        clear hkT HBK HO1 HB1 HK1 HG4
        have HBK := HBK2
        have HB1 := HB4
        have HK1 := HK4
        have HO1 := HO4
        clear HBK2 HB4 HK4 HO4
        have HEQ : Hid (Sp.leadBy q (Sp.addArc (n ++ [⟨false, [], []⟩]) pp ⟨lo, hi', (nl : Int)⟩) nl (row.drop (i + 1)) = Sp.leadBy q L p row) := by
          obtain ⟨r', rs, e1, e2⟩ := HDM.out (by omega)
          show _ = _
          rw [← hE.out, e1, e2, HNL.out]
          rfl
        have HLT : Hid (i + 1 < m → nl < (n ++ [(⟨false, [], []⟩ : Au.Lo)]).length) := fun e => by
          have := HNL.out
          simp
          omega
        have HXn : Hid (∀ s ∈ n ++ [(⟨false, [], []⟩ : Au.Lo)], s.arcs.length ≤ X + i) := fun s hs => by
          rcases List.mem_append.1 hs with hs | hs
          · exact hXi.out s hs
          · rw [List.mem_singleton.1 hs]; simp
        have HNL2 : Hid (nl + 1 = (n ++ [(⟨false, [], []⟩ : Au.Lo)]).length) := by show _ = _; rw [HNL.out]; simp
        have HNB : nl + 1 ≤ L.length + (i + 1) := by omega
        have hpn2 : pp < nl + 1 := by omega
        clear hXi HNL hnl hpn hE HDM HDL HPU hpp
        have hXi := HXn
        have HNL := HNL2
        have hpn := hpn2
        clear HXn HNL2 hpn2
        generalize n ++ [(⟨false, [], []⟩ : Au.Lo)] = n at *
        generalize vals ++ [(false, Value.slice none 0 0, Value.slice none 0 0)] = vals at *
        generalize nl + 1 = nk at *
        obtain ⟨nx, rfl⟩ : ∃ x : Nat, x = nl := ⟨_, rfl⟩
        obtain ⟨nl, rfl⟩ : ∃ x : Nat, x = nk := ⟨_, rfl⟩
        obtain ⟨wa, rfl⟩ : ∃ x : World, x = w4 := ⟨_, rfl⟩
      all_goals
        have hpv : pp < vals.length := by rw [HO1.out.each.len, ← HNL.out]; exact hpn
        have hpn3 : pp < n.length := by rw [← HNL.out]; exact hpn
        obtain ⟨q1, q2, q3⟩ := HO1.out.each.each pp hpv hpn3
        obtain ⟨G, cp, e0, _, _, hGB, hGl, hGk, hGf, hGc⟩ := HO1.out.form (by omega)
        obtain ⟨rfl, rfl⟩ : a0 = some ⟨G, 0, none⟩ ∧ cp0 = cp := by
          injection e0 with e1 e2 e3
          exact ⟨e1, e3⟩
        obtain ⟨_, d7, _⟩ := hGc pp hpv
        have df := hGf (pp * 3 + 1)
        have HQ2 := Lib.hid q2
        have HXp : Hid (n[pp].arcs.length ≤ X + i) := hXi.out _ (List.getElem_mem hpn3)
        have HARC := Lib.hid (fun (w1 : World) (v5 : Value) (arc : Au.Arc) => LoO.arc (w1 := w1) (v5 := v5) (arc := arc) (by rw [← HNL.out]; exact HO1.out) hpn3 hpv)
        have HARCS := Lib.hid (fun (a : Au.Arc) => Sp.addArc_arcs (p := pp) (a := a) hXi.out)
        have HAL := Lib.hid (fun (a : Au.Arc) => Sp.addArc_length n pp a)
        generalize n[pp].arcs = l at *
        have HVJ : Hid (∃ vj, vj = vals[pp].2.1) := ⟨_, rfl⟩
        obtain ⟨vj, hvj⟩ := HVJ.out
        rw [← hvj] at d7 HQ2 HARC
        clear hvj HVJ q1 q2 q3 e0 hGc hGf
        have b0 : wa.cell? ⟨bx, 0, none⟩ = some (.int .i64 lo) := by simp [World.cell?, HBK.out]
        have b1 : wa.cell? ⟨bx, 1, none⟩ = some (.int .i64 hi') := by simp [World.cell?, HBK.out]
        have hbxl : bx < wa.heap.size := (Array.getElem?_eq_some_iff.1 HBK.out).1
        have HSA : Hid (∀ W : World, W.heap[bx]? = wa.heap[bx]? → W.cell? ⟨bx, 0, none⟩ = some (.int .i64 lo) ∧ W.cell? ⟨bx, 1, none⟩ = some (.int .i64 hi')) := fun W e => by
          rw [HBK.out] at e
          exact ⟨by simp [World.cell?, e], by simp [World.cell?, e]⟩
        have HDN : Hid (((wa.alloc (.cells #[.int .i64 lo, .int .i64 hi', .int .i64 (nx : Int)] 44)).drew).cell? ⟨bx, 0, none⟩ = some (.int .i64 lo) ∧ ((wa.alloc (.cells #[.int .i64 lo, .int .i64 hi', .int .i64 (nx : Int)] 44)).drew).cell? ⟨bx, 1, none⟩ = some (.int .i64 hi')) := HSA.out _ (Go.Deep.blk_alloc_lt _ _ _ hbxl)
        have hq0 := HDN.out.1
        have hq1 := HDN.out.2
        have g7 : ((wa.alloc (.cells #[.int .i64 lo, .int .i64 hi', .int .i64 (nx : Int)] 44)).drew).cell? ⟨G, pp * 3 + 1, none⟩ = some vj := (World.cell?_of_block (w := wa) (a := ⟨G, pp * 3 + 1, none⟩) (Go.Deep.blk_alloc_lt _ _ _ hGl)).trans d7
        have hBE : Hid (Below wa.heap.size wa ((wa.alloc (.cells #[.int .i64 lo, .int .i64 hi', .int .i64 (nx : Int)] 44)).drew)) := ((Below.refl _ _).alloc (Nat.le_refl _) _).drew
        have hnw := Lib.hid (new_arcD wa lo hi' (nx : Int))
        have HBW : Hid (B ≤ wa.heap.size) := Nat.le_trans hB HB1.out.size
        have HGB := Lib.hid hGB
        have i6 : (pp : Int) < (nl : Int) := by omega
        clear hGB hGl hGk
        refine wp_region_held_drew (S := fun wx => wx.cell? ⟨bx, 0, none⟩ = some (.int .i64 lo) ∧ wx.cell? ⟨bx, 1, none⟩ = some (.int .i64 hi')) (by kernel_rfl) ⟨b0, b1⟩ (fun hHeld => ?_)
        refine wpAnyH_take (i := 0) (fuel := 17) (oi := ⟨_, _, _, _, _, _⟩) (v := ?_) rfl (by kernel_rfl) (by kernel_rfl) (by kernel_rfl) (fun _ _ _ h => h) (Or.inl ⟨by rfl, ?_⟩) (by assumption) ?_
        rotate_left
        · intro w _
          first | (go_simp; done) | (go_simp; with_reducible rfl)
        simp only [Act.put, List.setIfInBounds_toArray, List.set_cons_zero, List.set_cons_succ]
        refine wpAnyH_take (i := 1) (fuel := 16) (oi := ⟨_, _, _, _, _, _⟩) (v := ?_) rfl (by kernel_rfl) (by kernel_rfl) (by kernel_rfl) (fun _ _ _ h => h) (Or.inl ⟨by rfl, ?_⟩) (by assumption) ?_
        rotate_left
        · intro w _
          first | (go_simp; done) | (go_simp; with_reducible rfl)
        simp only [Act.put, List.setIfInBounds_toArray, List.set_cons_zero, List.set_cons_succ]
        refine wpAnyH_take (i := 2) (fuel := 15) (oi := ⟨_, _, _, _, _, _⟩) (v := ?_) rfl (by kernel_rfl) (by kernel_rfl) (by kernel_rfl) (fun _ _ _ h => h) (Or.inl ⟨by rfl, ?_⟩) (by assumption) ?_
        rotate_left
        · intro w _
          first | (go_simp; done) | (go_simp; with_reducible rfl)
        simp only [Act.put, List.setIfInBounds_toArray, List.set_cons_zero, List.set_cons_succ]
        refine wpAnyH_take (i := 3) (fuel := 14) (oi := ⟨_, _, _, _, _, _⟩) (v := ?_) rfl (by kernel_rfl) (by kernel_rfl) (by kernel_rfl) (fun _ _ _ h => h) (Or.inl ⟨by rfl, ?_⟩) (by assumption) ?_
        rotate_left
        · intro w _
          first | (go_simp; done) | (go_simp; with_reducible rfl)
        simp only [Act.put, List.setIfInBounds_toArray, List.set_cons_zero, List.set_cons_succ]
        refine wpAnyH_take (i := 4) (fuel := 13) (oi := ⟨_, _, _, _, _, _⟩) (v := ?_) rfl (by kernel_rfl) (by kernel_rfl) (by kernel_rfl) (fun _ _ _ h => h) (Or.inl ⟨by rfl, ?_⟩) (by assumption) ?_
        rotate_left
        · intro w _
          first | (go_simp; done) | (go_simp; with_reducible rfl)
        simp only [Act.put, List.setIfInBounds_toArray, List.set_cons_zero, List.set_cons_succ]
        refine wpAnyH_take (i := 5) (fuel := 12) (oi := ⟨_, _, _, _, _, _⟩) (v := ?_) rfl (by kernel_rfl) (by kernel_rfl) (by kernel_rfl) (fun _ _ _ h => h) (Or.inl ⟨by rfl, ?_⟩) (by assumption) ?_
        rotate_left
        · intro w _
          first | (go_simp; done) | (go_simp; with_reducible rfl)
        simp only [Act.put, List.setIfInBounds_toArray, List.set_cons_zero, List.set_cons_succ]
        refine wpAnyH_take (i := 7) (fuel := 11) (oi := ⟨_, _, _, _, _, _⟩) (v := ?_) rfl (by kernel_rfl) (by kernel_rfl) (by kernel_rfl) (fun _ _ _ h => h) (Or.inl ⟨by rfl, ?_⟩) (by assumption) ?_
        rotate_left
        · intro w _
          first | (go_simp; done) | (go_simp; with_reducible rfl)
        simp only [Act.put, List.setIfInBounds_toArray, List.set_cons_zero, List.set_cons_succ]
        refine wpAnyH_take (i := 8) (fuel := 10) (oi := ⟨_, _, _, _, _, _⟩) (v := ?_) rfl (by kernel_rfl) (by kernel_rfl) (by kernel_rfl) (fun _ _ _ h => h) (Or.inl ⟨by rfl, ?_⟩) (by assumption) ?_
        rotate_left
        · intro w hSw
          obtain ⟨h1, _⟩ := hSw
          first | (go_simp; done) | (go_simp; with_reducible rfl)
        simp only [Act.put, List.setIfInBounds_toArray, List.set_cons_zero, List.set_cons_succ]
        refine wpAnyH_take (i := 9) (fuel := 9) (oi := ⟨_, _, _, _, _, _⟩) (v := ?_) rfl (by kernel_rfl) (by kernel_rfl) (by kernel_rfl) (fun _ _ _ h => h) (Or.inl ⟨by rfl, ?_⟩) (by assumption) ?_
        rotate_left
        · intro w _
          first | (go_simp; done) | (go_simp; with_reducible rfl)
        simp only [Act.put, List.setIfInBounds_toArray, List.set_cons_zero, List.set_cons_succ]
        refine wpAnyH_take (i := 10) (fuel := 8) (oi := ⟨_, _, _, _, _, _⟩) (v := ?_) rfl (by kernel_rfl) (by kernel_rfl) (by kernel_rfl) (fun _ _ _ h => h) (Or.inl ⟨by rfl, ?_⟩) (by assumption) ?_
        rotate_left
        · intro w hSw
          obtain ⟨_, h2⟩ := hSw
          first | (go_simp; done) | (go_simp; with_reducible rfl)
        simp only [Act.put, List.setIfInBounds_toArray, List.set_cons_zero, List.set_cons_succ]
        refine wpAnyH_take (i := 11) (fuel := 7) (oi := ⟨_, _, _, _, _, _⟩) (v := ?_) rfl (by kernel_rfl) (by kernel_rfl) (by kernel_rfl) (fun _ _ _ h => h) (Or.inl ⟨by rfl, ?_⟩) (by assumption) ?_
        rotate_left
        · intro w _
          first | (go_simp; done) | (go_simp; with_reducible rfl)
        simp only [Act.put, List.setIfInBounds_toArray, List.set_cons_zero, List.set_cons_succ]
        refine wpAnyH_take (i := 12) (fuel := 6) (oi := ⟨_, _, _, _, _, _⟩) (v := ?_) rfl (by kernel_rfl) (by kernel_rfl) (by kernel_rfl) (fun _ _ _ h => h) (Or.inl ⟨by rfl, ?_⟩) (by assumption) ?_
        rotate_left
        · intro w _
          first | (go_simp; done) | (go_simp; with_reducible rfl)
        simp only [Act.put, List.setIfInBounds_toArray, List.set_cons_zero, List.set_cons_succ]
        refine wpAnyH_ready (rs := [6, 13]) (by kernel_rfl) (by simp) ?_
        refine AllReadyH.cons (o := ⟨_, _, _, _, _, _⟩) rfl (fun K hK => ?_) ?_
        · go_simp
          refine hK.out _ _ ⟨b0, b1⟩ (fun hHeld => ?_)
          clear hK K
          refine wpAnyH_ready (rs := [13]) (by kernel_rfl) (by simp) ?_
          refine AllReadyH.cons (o := ⟨_, _, _, _, _, _⟩) rfl (fun K hK => ?_) AllReadyH.nil
          go_simp
          refine hK.out _ _ ⟨hq0, hq1⟩ (fun hHeld => ?_)
          clear hK K
          refine wpAnyH_ready (rs := [14]) (by kernel_rfl) (by simp) ?_
          refine AllReadyH.cons (o := ⟨_, _, _, _, _, _⟩) rfl (fun K hK => ?_) AllReadyH.nil
          refine step_pushA (by rfl) _ _ (by rfl) B vj l (by rfl) HQ2.out hBE.out HBW.out lo hi' (nx : Int) ⟨wa.heap.size, 0, none⟩ hnw.out (by rfl) (by have := HXp.out; omega) ?_
          intro g5 cp5 w5 ho5 hg5 hn5
          have HKP : Hid (∀ g, g < wa.heap.size → vj.ownBlock ≠ some g → w5.heap[g]? = wa.heap[g]?) := fun g hgl hne => by
            refine (hg5.block g (by have := hBE.out.size; omega) (fun e => hne e.symm)).trans (Go.Deep.blk_alloc_lt _ _ _ hgl)
          have HARC5 := Lib.hid (HARC.out w5 (.slice (some ⟨g5, 0, none⟩) (l.length + 1) cp5) ⟨lo, hi', (nx : Int)⟩ ho5 HKP.out (fun g hg => by
            have e5 : g5 = g := by simpa [Value.ownBlock] using hg
            rw [← e5]
            exact hn5))
          have HB5 : Hid (Below B w w5) := by
            have h1 : Below B w ((wa.alloc (.cells #[.int .i64 lo, .int .i64 hi', .int .i64 (nx : Int)] 44)).drew) := (HB1.out.alloc HBW.out _).drew
            exact h1.grown hg5 (Nat.le_trans hB h1.size) (fun j hj => (HQ2.out.lt j hj).1)
          have k0 := HSA.out w5 (by
            refine HKP.out bx hbxl fun e => ?_
            obtain ⟨c', fz', hc'⟩ := HQ2.out.kind bx e
            exact kinds_neY HBK.out hc' (by decide) rfl)
          have k1 : w5.cell? ⟨G, pp * 3 + 1, none⟩ = some vj := by
            refine (World.cell?_of_block (w := wa) (a := ⟨G, pp * 3 + 1, none⟩) HARC5.out.2.2.2).trans d7
          have k2 : w5.frozen? ⟨G, pp * 3 + 1, none⟩ = false := (World.frozen?_of_block (w := wa) (a := ⟨G, pp * 3 + 1, none⟩) HARC5.out.2.2.2).trans df
          have z3 := HSA.out (w5.setCell ⟨G, pp * 3 + 1, none⟩ (.slice (some ⟨g5, 0, none⟩) (l.length + 1) cp5)) ((HARC5.out.2.1 bx _ _ _ HBK.out (by decide) (by decide)))
          clear hg5 hn5 ho5
          refine hK.out _ _ k0 (fun hHeld => ?_)
          clear hK K
          simp only [Act.put, List.setIfInBounds_toArray, List.set_cons_zero, List.set_cons_succ]
          refine wpAnyH_ready (rs := [15]) (by kernel_rfl) (by simp) ?_
          refine AllReadyH.cons (o := ⟨_, _, _, _, _, _⟩) rfl (fun K hK => ?_) AllReadyH.nil
          go_simp
          refine hK.out _ _ k0 (fun hHeld => ?_)
          clear hK K
          refine wpAnyH_ready (rs := [16]) (by kernel_rfl) (by simp) ?_
          refine AllReadyH.cons (o := ⟨_, _, _, _, _, _⟩) rfl (fun K hK => ?_) AllReadyH.nil
          go_simp
          refine hK.out _ _ k0 (fun hHeld => ?_)
          clear hK K
          refine wpAnyH_ready (rs := [17]) (by kernel_rfl) (by simp) ?_
          refine AllReadyH.cons (o := ⟨_, _, _, _, _, _⟩) rfl (fun K hK => ?_) AllReadyH.nil
          go_simp
          refine hK.out _ _ z3 (fun hHeld => ?_)
          clear hK K
          refine wpAnyH_done (by kernel_rfl) ?_ _
          have HB6 : Hid (Below B w (w5.setCell ⟨G, pp * 3 + 1, none⟩ (.slice (some ⟨g5, 0, none⟩) (l.length + 1) cp5))) := HB5.out.setCell HGB.out _
          have HK6 : Hid (KeptT w (w5.setCell ⟨G, pp * 3 + 1, none⟩ (.slice (some ⟨g5, 0, none⟩) (l.length + 1) cp5))) := HK1.out.trans HARC5.out.2.1
          have HO6 : Hid (LoO (w5.setCell ⟨G, pp * 3 + 1, none⟩ (.slice (some ⟨g5, 0, none⟩) (l.length + 1) cp5)) B (.slice (some ⟨G, 0, none⟩) nl cp0) (vals.set pp (vals[pp].1, .slice (some ⟨g5, 0, none⟩) (l.length + 1) cp5, vals[pp].2.2)) (Sp.addArc n pp ⟨lo, hi', (nx : Int)⟩)) := by
            have := HARC5.out.1
            rw [← HNL.out] at this
            exact this
          have HLT2 : Hid (i + 1 < m → nx < (Sp.addArc n pp ⟨lo, hi', (nx : Int)⟩).length) := fun e => by rw [HAL.out]; exact HLT.out e
          have HNB2 : (Sp.addArc n pp ⟨lo, hi', (nx : Int)⟩).length ≤ L.length + (i + 1) := by rw [HAL.out, ← HNL.out]; exact HNB
          clear k1 k2 z3 d7 df g7 b0 b1 hq0 hq1 k0
          try (obtain rfl := HNQ.out)
          go_wp2_with fail
          go_roundg (m - (i + 1))
          case rel => exact ⟨i + 1, nx, _, _, _, by omega, rfl, rfl, rfl, by go_num, HNB2, HLT2, HO6, HEQ, HARCS.out _, HB6, HK6⟩
          case measure => omega
        refine AllReadyH.cons (o := ⟨_, _, _, _, _, _⟩) rfl (fun K hK => ?_) AllReadyH.nil
        go_simp
        refine hK.out _ _ ⟨hq0, hq1⟩ (fun hHeld => ?_)
        clear hK K
        refine wpAnyH_ready (rs := [6]) (by kernel_rfl) (by simp) ?_
        refine AllReadyH.cons (o := ⟨_, _, _, _, _, _⟩) rfl (fun K hK => ?_) AllReadyH.nil
        go_simp
        refine hK.out _ _ ⟨hq0, hq1⟩ (fun hHeld => ?_)
        clear hK K
        refine wpAnyH_ready (rs := [14]) (by kernel_rfl) (by simp) ?_
        refine AllReadyH.cons (o := ⟨_, _, _, _, _, _⟩) rfl (fun K hK => ?_) AllReadyH.nil
        refine step_pushA (by rfl) _ _ (by rfl) B vj l (by rfl) HQ2.out hBE.out HBW.out lo hi' (nx : Int) ⟨wa.heap.size, 0, none⟩ hnw.out (by rfl) (by have := HXp.out; omega) ?_
        intro g5 cp5 w5 ho5 hg5 hn5
        have HKP : Hid (∀ g, g < wa.heap.size → vj.ownBlock ≠ some g → w5.heap[g]? = wa.heap[g]?) := fun g hgl hne => by
          refine (hg5.block g (by have := hBE.out.size; omega) (fun e => hne e.symm)).trans (Go.Deep.blk_alloc_lt _ _ _ hgl)
        have HARC5 := Lib.hid (HARC.out w5 (.slice (some ⟨g5, 0, none⟩) (l.length + 1) cp5) ⟨lo, hi', (nx : Int)⟩ ho5 HKP.out (fun g hg => by
          have e5 : g5 = g := by simpa [Value.ownBlock] using hg
          rw [← e5]
          exact hn5))
        have HB5 : Hid (Below B w w5) := by
          have h1 : Below B w ((wa.alloc (.cells #[.int .i64 lo, .int .i64 hi', .int .i64 (nx : Int)] 44)).drew) := (HB1.out.alloc HBW.out _).drew
          exact h1.grown hg5 (Nat.le_trans hB h1.size) (fun j hj => (HQ2.out.lt j hj).1)
        have k0 := HSA.out w5 (by
          refine HKP.out bx hbxl fun e => ?_
          obtain ⟨c', fz', hc'⟩ := HQ2.out.kind bx e
          exact kinds_neY HBK.out hc' (by decide) rfl)
        have k1 : w5.cell? ⟨G, pp * 3 + 1, none⟩ = some vj := by
          refine (World.cell?_of_block (w := wa) (a := ⟨G, pp * 3 + 1, none⟩) HARC5.out.2.2.2).trans d7
        have k2 : w5.frozen? ⟨G, pp * 3 + 1, none⟩ = false := (World.frozen?_of_block (w := wa) (a := ⟨G, pp * 3 + 1, none⟩) HARC5.out.2.2.2).trans df
        have z3 := HSA.out (w5.setCell ⟨G, pp * 3 + 1, none⟩ (.slice (some ⟨g5, 0, none⟩) (l.length + 1) cp5)) ((HARC5.out.2.1 bx _ _ _ HBK.out (by decide) (by decide)))
        clear hg5 hn5 ho5
        refine hK.out _ _ k0 (fun hHeld => ?_)
        clear hK K
        simp only [Act.put, List.setIfInBounds_toArray, List.set_cons_zero, List.set_cons_succ]
        refine wpAnyH_ready (rs := [15]) (by kernel_rfl) (by simp) ?_
        refine AllReadyH.cons (o := ⟨_, _, _, _, _, _⟩) rfl (fun K hK => ?_) AllReadyH.nil
        go_simp
        refine hK.out _ _ k0 (fun hHeld => ?_)
        clear hK K
        refine wpAnyH_ready (rs := [16]) (by kernel_rfl) (by simp) ?_
        refine AllReadyH.cons (o := ⟨_, _, _, _, _, _⟩) rfl (fun K hK => ?_) AllReadyH.nil
        go_simp
        refine hK.out _ _ k0 (fun hHeld => ?_)
        clear hK K
        refine wpAnyH_ready (rs := [17]) (by kernel_rfl) (by simp) ?_
        refine AllReadyH.cons (o := ⟨_, _, _, _, _, _⟩) rfl (fun K hK => ?_) AllReadyH.nil
        go_simp
        refine hK.out _ _ z3 (fun hHeld => ?_)
        clear hK K
        refine wpAnyH_done (by kernel_rfl) ?_ _
        have HB6 : Hid (Below B w (w5.setCell ⟨G, pp * 3 + 1, none⟩ (.slice (some ⟨g5, 0, none⟩) (l.length + 1) cp5))) := HB5.out.setCell HGB.out _
        have HK6 : Hid (KeptT w (w5.setCell ⟨G, pp * 3 + 1, none⟩ (.slice (some ⟨g5, 0, none⟩) (l.length + 1) cp5))) := HK1.out.trans HARC5.out.2.1
        have HO6 : Hid (LoO (w5.setCell ⟨G, pp * 3 + 1, none⟩ (.slice (some ⟨g5, 0, none⟩) (l.length + 1) cp5)) B (.slice (some ⟨G, 0, none⟩) nl cp0) (vals.set pp (vals[pp].1, .slice (some ⟨g5, 0, none⟩) (l.length + 1) cp5, vals[pp].2.2)) (Sp.addArc n pp ⟨lo, hi', (nx : Int)⟩)) := by
          have := HARC5.out.1
          rw [← HNL.out] at this
          exact this
        have HLT2 : Hid (i + 1 < m → nx < (Sp.addArc n pp ⟨lo, hi', (nx : Int)⟩).length) := fun e => by rw [HAL.out]; exact HLT.out e
        have HNB2 : (Sp.addArc n pp ⟨lo, hi', (nx : Int)⟩).length ≤ L.length + (i + 1) := by rw [HAL.out, ← HNL.out]; exact HNB
        clear k1 k2 z3 d7 df g7 b0 b1 hq0 hq1 k0
        try (obtain rfl := HNQ.out)
        go_wp2_with fail
        go_roundg (m - (i + 1))
        case rel => exact ⟨i + 1, nx, _, _, _, by omega, rfl, rfl, rfl, by go_num, HNB2, HLT2, HO6, HEQ, HARCS.out _, HB6, HK6⟩
        case measure => omega
    · obtain rfl : i = m := by omega
      have e1 : row.drop i = [] := List.drop_of_length_le (by rw [HM.out]; exact Nat.le_refl _)
      rw [e1] at hE
      clear e1
      go_wp2_with fail
      go_ret
      refine ⟨_, vals, rfl, ?_, hbel.out, hkt.out⟩
      rw [← hE.out]
      exact hO.out
end Go.Proofs.Ytpoeklgoepjikaa

/-
  What Lead answers: the characters of a range lead from one state to another.
-/
namespace Go.Proofs.Ytpoeklgoepjikaa
open Go.RowKit

namespace Sp
theorem leadBy_arcs {n : List Au.Lo} {p q X : Nat} {row : List (Int × Int)} (hp : p < n.length) (h : ∀ s ∈ n, s.arcs.length ≤ X) : ∀ s ∈ leadBy q n p row, s.arcs.length ≤ X + 1 := by
  cases row with
  | nil => intro s hs; have := h s hs; omega
  | cons r rs =>
    rw [leadBy_form q rs r n p hp]
    intro s hs
    rcases List.mem_append.1 hs with hs | hs
    · exact addArc_arcs h s hs
    · obtain ⟨j, hj⟩ := List.mem_iff_getElem?.1 hs
      have hl : j < rs.length := by have := (List.getElem?_eq_some_iff.1 hj).1; rwa [chainL_length] at this
      rw [chainL_at q n.length rs j hl] at hj
      cases hj
      simp
theorem lead_bounds {L : List Au.Lo} {p q X : Nat} (hp : p < L.length) (hX : ∀ s ∈ L, s.arcs.length ≤ X) : ∀ (m : Nat) (R : List (List (Int × Int))), R.length = m → (∀ row ∈ R, row.length ≤ 4) → L.length ≤ (lead L p q R).length ∧ (lead L p q R).length ≤ L.length + 4 * m ∧ ∀ s ∈ lead L p q R, s.arcs.length ≤ X + m
  | 0, R, hR, _ => by
    obtain rfl := List.length_eq_zero_iff.1 hR
    exact ⟨Nat.le_refl _, Nat.le_refl _, hX⟩
  | m + 1, R, hR, hr => by
    obtain ⟨T, row, rfl⟩ : ∃ T row, R = T ++ [row] := ⟨R.dropLast, R.getLast (by intro e; rw [e] at hR; simp at hR), (List.dropLast_concat_getLast _).symm⟩
    obtain ⟨i1, i2, i3⟩ := lead_bounds (q := q) hp hX m T (by simpa using hR) fun r h => hr r (List.mem_append_left _ h)
    have hrow := hr row (by simp)
    rw [lead_snoc]
    have hp2 : p < (lead L p q T).length := by omega
    have hl := leadBy_length q (lead L p q T) p row hp2
    exact ⟨by omega, by omega, leadBy_arcs hp2 i3⟩
end Sp
theorem rowK {w w' : World} (h : KeptT w w') {g j : Nat} {v : Value} (hk : ∃ (c : Array Value) (fz : Nat × Nat), w.heap[g]? = some (Obj.cells c 40 fz)) (hc : w.cell? ⟨g, j, none⟩ = some v) : w'.cell? ⟨g, j, none⟩ = some v := by
  obtain ⟨c, fz, hg⟩ := hk
  exact (World.cell?_of_block (w := w) (a := ⟨g, j, none⟩) (h g c _ fz hg (by decide) (by decide))).trans hc

set_option maxRecDepth 100000 in
set_option maxHeartbeats 4000000 in
theorem lead_any (F : Nat → Prop) (w : World) (v : Value) (L : List Au.Lo) (h : LoS F w v L) (hL : L.length ≤ 1000) (hs : ∀ s ∈ L, s.arcs.length ≤ 1099511627 ∧ s.free.length * 8 ≤ 140737488355328) (p q : Nat) (lo hi : Int) (hp : p < L.length) (hq : q < L.length) :
    Calls Try.prog 6 #[v, .int .i64 (p : Int), .int .i64 (q : Int), .int .i64 lo, .int .i64 hi] w fun e w' => ∃ v' vals, e = .returned v' ∧ LoO w' w.heap.size v' vals (Sp.lead L p q (Sp.rows lo hi)) ∧ Below w.heap.size w w' := by
  have HC := Lib.hid (copyOf_any F w v L h hL fun s hs' => ⟨by have := (hs s hs').1; omega, (hs s hs').2⟩)
  have hb1 : inB (p : Int) L.length = true := decide_eq_true ⟨by omega, by omega⟩
  have hb2 : inB (q : Int) L.length = true := decide_eq_true ⟨by omega, by omega⟩
  obtain ⟨a, cap, rfl, _, hcp, _⟩ := h
  have H1 := Lib.hid (fun w => isPlace_any5 (p : Int) L.length w)
  have H2 := Lib.hid (fun w => isPlace_any5 (q : Int) L.length w)
  rw [hb1] at H1
  rw [hb2] at H2
  have HRW := Lib.hid (fun w => rows_any lo hi w)
  have HFEW := Sp.rows_few lo hi
  have HOK := Lib.hid (fun row (hr : row ∈ Sp.rows lo hi) => Sp.rows_shape hr)
  have HBD := Lib.hid (fun (m : Nat) (T : List (List (Int × Int))) (e : T.length = m) (ht : ∀ row ∈ T, row.length ≤ 4) => Sp.lead_bounds (q := q) hp (fun s hs' => (hs s hs').1) m T e ht)
  generalize Sp.rows lo hi = R at *
  obtain ⟨n, hn⟩ : ∃ n, n = L.length := ⟨_, rfl⟩
  have HN := Lib.hid hn
  rw [← hn] at hL HC H1 H2 hp hq ⊢
  clear hn hb1 hb2 hs
  go_enter Try.func6, Try.ntmps6
  go_wp2_with fail
  refine HC.out.mono ?_
  rintro e w1 ⟨v', vals, rfl, hO, hb⟩
  have HO1 := Lib.hid hO
  have HB1 := Lib.hid hb
  clear hO hb HC
  go_wp2_with fail
  refine (H1.out w1).mono ?_
  rintro e w2 ⟨rfl, rfl⟩
  go_wp2_with fail
  refine (H2.out w1).mono ?_
  rintro e w2 ⟨rfl, rfl⟩
  go_wp2_with fail
  refine (HRW.out w1).mono ?_
  rintro e w2 ⟨vr, gs, rfl, hR, hb⟩
  have HO2 := Lib.hid (HO1.out.keep fun k hk => hb.block k hk)
  have HB2 : Hid (Below w.heap.size w w2) := HB1.out.trans (hb.mono HB1.out.size)
  have HR := Lib.hid hR
  obtain ⟨nr, hnr⟩ : ∃ nr, nr = R.length := ⟨_, rfl⟩
  obtain ⟨ar, cr, rfl, _, _, hform⟩ := HR.out.form
  have HF := Lib.hid hform
  have HNR := Lib.hid hnr
  rw [← hnr] at HFEW ⊢
  clear hR hb hform hnr HO1 HB1 HRW
  go_wp2_with fail
  go_loopg [11, 33] nr (fun g' s11 s33 wx => ∃ (k : Nat) (vv : Value) (vals : List LoV), k ≤ nr ∧ g' = nr - k ∧ vv = s11 ∧ s33 = .int .i64 k ∧ Hid (LoO wx w.heap.size vv vals (Sp.lead L p q (R.take k))) ∧ Hid (Below w.heap.size w wx) ∧ Hid (KeptT w2 wx))
  case atStart => exact ⟨0, _, vals, Nat.zero_le _, rfl, rfl, rfl, HO2, HB2, KeptT.refl _⟩
  case round =>
    obtain ⟨k, vv, vals, hk, rfl, rfl, rfl, hO, hbel, hkt⟩ := hrel
    by_cases hkn : k < nr
    · have i1 : (k : Int) < (nr : Int) := by omega
      have hkR : k < R.length := by rw [← HNR.out]; exact hkn
      have hkg : k < gs.length := by rw [HR.out.len]; exact hkR
      obtain ⟨gr, rfl, _, hgr, hcell⟩ := HF.out (by omega)
      have c1 := rowK hkt.out (HR.out.kind gr rfl).2.2 (hcell k hkg hkR)
      have HG := Lib.hid (hkt.out.row (HR.out.row k hkg hkR).2)
      have HSH := Lib.hid (HOK.out R[k] (List.getElem_mem hkR))
      obtain ⟨b1, b2, b3⟩ := HBD.out k (R.take k) (by rw [List.length_take]; omega) fun row hr => (HOK.out row (List.mem_of_mem_take hr)).len
      have HST : Hid (Sp.lead L p q (R.take (k + 1)) = Sp.leadBy q (Sp.lead L p q (R.take k)) p R[k]) := by
        show _ = _
        rw [List.take_succ_eq_append_getElem hkR, Sp.lead_snoc]
      obtain ⟨m, hm⟩ : ∃ m, R[k].length = m := ⟨_, rfl⟩
      have HCL := Lib.hid (leadBy_any wr w.heap.size vv vals _ hO.out p q gs[k] m R[k] (by rw [← HN.out] at b1; omega) HG.out hm (by rw [← hm]; exact HSH.out.len) (by rw [← HN.out] at b2; omega) _ b3 (by omega) hbel.out.size HSH.out.rng)
      rw [hm] at c1
      clear hcell hm b1 b2 b3 hO
      go_wp2_with fail
      refine HCL.out.mono ?_
      rintro e w3 ⟨v3, vals3, rfl, hO3, hb3, hk3⟩
      have HO3 : Hid (LoO w3 w.heap.size v3 vals3 (Sp.lead L p q (R.take (k + 1)))) := by
        show LoO _ _ _ _ _
        rw [HST.out]
        exact hO3
      have HB3 : Hid (Below w.heap.size w w3) := hbel.out.trans hb3
      have HK3 : Hid (KeptT w2 w3) := hkt.out.trans hk3
      clear hO3 hb3 hk3 c1
      go_wp2_with fail
      go_roundg (nr - (k + 1))
      case rel => exact ⟨k + 1, _, vals3, by omega, rfl, rfl, by go_num, HO3, HB3, HK3⟩
      case measure => omega
    · obtain rfl : k = nr := by omega
      have e : R.take k = R := List.take_of_length_le (by rw [← HNR.out]; exact Nat.le_refl _)
      rw [e] at hO
      clear e
      go_wp2_with fail
      go_ret
      exact ⟨_, vals, rfl, hO.out, hbel.out⟩
end Go.Proofs.Ytpoeklgoepjikaa

/-
  Small lemmas on rows of arcs that lead to a state.
-/
namespace Go.Proofs.Ytpoeklgoepjikaa
open Go.RowKit
namespace Au
theorem row_few2 {n : Nat} {c : Int} {l : List Arc} (h : Row n c l) : (l.length : Int) ≤ max c 0 := by
  have hk : ∀ k (hk : k < l.length), (k : Int) ≤ l[k].lo := by
    intro k
    induction k with
    | zero => intro hk; exact (h.1 0 hk).1
    | succ k ih =>
      intro hk
      have := ih (by omega)
      have := h.1 k (by omega)
      have := h.2 k hk
      omega
  by_cases h0 : l.length = 0
  · omega
  · have := hk (l.length - 1) (by omega)
    have := h.1 (l.length - 1) (by omega)
    omega
theorem flat_le2 {L : List (List Arc)} {m : Nat} (h : ∀ l ∈ L, l.length ≤ m) : L.flatten.length ≤ L.length * m := by
  induction L with
  | nil => simp
  | cons a r ih =>
    rw [List.flatten_cons, List.length_append, List.length_cons, Nat.succ_mul]
    have h1 := h a (List.mem_cons_self ..)
    have h2 := ih fun l hl => h l (List.mem_cons_of_mem _ hl)
    omega
theorem back_few {d : List St} (hr : ∀ i (h : i < d.length), Row d.length 256 d[i].arcs) (t : Nat) : (back d t).length ≤ d.length * 256 := by
  unfold back
  rw [List.flatMap_def]
  have := flat_le2 (L := (List.range d.length).map fun i => backRow (arcsOf d i) t i) (m := 256) fun l hl => by
    obtain ⟨i, _, rfl⟩ := List.mem_map.1 hl
    have h1 : (backRow (arcsOf d i) t i).length ≤ (arcsOf d i).length := by
      unfold backRow
      rw [List.length_map]
      exact List.length_filter_le ..
    have h2 := row_few2 (arcsOf_row hr i)
    omega
  simpa using this
end Au
theorem Try.infoAs2 : (Try.prog.info? 22).map (fun i => (i.zero, i.size, i.bytes)) = some (some (.slice none 0 0), 1, 24) := by kernel_rfl
end Go.Proofs.Ytpoeklgoepjikaa

/-
  The program's backward: of each state the arcs that lead to it.
-/
namespace Go.Proofs.Ytpoeklgoepjikaa
open Go.RowKit
namespace Au
theorem backTo_few {d : List St} (hr : ∀ i (h : i < d.length), Row d.length 256 d[i].arcs) (i k t : Nat) (hi : i ≤ 20000) (hk : k ≤ 256) : (backTo d i k t).length ≤ 6000000 := by
  have h1 := backTo_len d i k t
  rw [List.flatMap_def] at h1
  have h2 := flat_le2 (L := (List.range i).map fun j => arcsOf d j) (m := 256) fun l hl => by
    obtain ⟨j, _, rfl⟩ := List.mem_map.1 hl
    have := row_few2 (arcsOf_row hr j)
    omega
  rw [List.length_map, List.length_range] at h2
  omega
theorem backTo_put (d : List St) (i k t0 : Nat) (h : k < (arcsOf d i).length) (ht : (arcsOf d i)[k].to = (t0 : Int)) : (fun j => if j = t0 then backTo d i k t0 ++ [⟨(arcsOf d i)[k].lo, (arcsOf d i)[k].hi, (i : Int)⟩] else backTo d i k j) = backTo d i (k + 1) := by
  funext j
  rw [backTo_step d i k j h, ht]
  by_cases e : j = t0
  · subst e; rw [if_pos rfl, if_pos rfl]
  · rw [if_neg e, if_neg (by omega)]
end Au
/-- The rows while they grow. -/
structure BkS (w0 w : World) (κ : Nat → Nat) (g n : Nat) (x : Nat → Value) (T : Nat → List Au.Arc) : Prop where
  row : w.rowIs g 22 n x
  kg : κ g = 1
  each : ∀ t, t < n → RowC κ (10 + t) w 44 3 (x t) (T t).length (arcsV (T t))
  lo : LoB κ w w0.heap.size
  below : Below w0.heap.size w0 w
section
variable {w0 w w' : World} {κ κ' : Nat → Nat} {g n c : Nat} {x : Nat → Value} {T : Nat → List Au.Arc}
theorem BkS.start (w0 : World) (n : Nat) : BkS w0 (w0.alloc (.cells (madeCells #[.slice none 0 0] n) 22)) (fun k => if k = w0.heap.size then 1 else 0) w0.heap.size n (fun _ => .slice none 0 0) (fun _ => []) := by
  refine ⟨World.rowIs_made w0 _ n _, if_pos rfl, fun t _ => RowC.nil _ _ _ _ _, fun k hk hc => ?_, (Below.refl _ _).alloc (Nat.le_refl _) _⟩
  change (if _ then _ else _) ≠ 0 at hc
  split at hc
  · omega
  · exact absurd rfl hc
theorem BkS.step (h : BkS w0 w κ g n x T) (hs : Step κ c w w' κ') (h1 : c ≠ 1) (h0 : c ≠ 0) (h10 : c < 10) : BkS w0 w' κ' g n x T :=
  ⟨h.row.of_block (hs.block g h.row.lt (by rw [h.kg]; exact fun e => h1 e.symm)), (hs.col g h.row.lt).trans h.kg, fun t ht => (h.each t ht).step hs (by omega), h.lo.step hs h.below.size, hs.below h.lo h0 h.below h.below.size⟩
theorem BkS.push {w3 : World} {t g' m cp : Nat} {a : Au.Arc} (h : BkS w0 w κ g n x T) (ht : t < n) (hr : RowC κ' (10 + t) w3 44 3 (.slice (some ⟨g', 0, none⟩) m cp) m (arcsV (T t) ++ [.int .i64 a.lo, .int .i64 a.hi, .int .i64 a.to])) (hm : m = (T t).length + 1) (hs : Step κ (10 + t) w w3 κ') :
    (w3.cell? ⟨g, t, none⟩ = some (x t) ∧ w3.frozen? ⟨g, t, none⟩ = false) ∧
    BkS w0 (w3.setCell ⟨g, t, none⟩ (.slice (some ⟨g', 0, none⟩) m cp)) κ' g n (fun j => if j = t then .slice (some ⟨g', 0, none⟩) m cp else x j) (fun j => if j = t then T t ++ [a] else T j) := by
  have hrow : w3.rowIs g 22 n x := h.row.of_block (hs.block g h.row.lt (by rw [h.kg]; omega))
  have hk : κ' g = 1 := (hs.col g h.row.lt).trans h.kg
  have hs2 : Step κ' 1 w3 (w3.setCell ⟨g, t, none⟩ (.slice (some ⟨g', 0, none⟩) m cp)) κ' := Step.of_set w3 g t _ hk
  have hlo := h.lo.step hs h.below.size
  have hbe := hs.below h.lo (by omega) h.below h.below.size
  refine ⟨⟨hrow.cell ht, hrow.frozen t⟩, hrow.set t _, hk, fun j hj => ?_, hlo.step hs2 hbe.size, hs2.below hlo (by decide) hbe hbe.size⟩
  by_cases e : j = t
  · subst e
    rw [if_pos rfl, if_pos rfl, List.length_append, ← arcsV_snoc, show (T j).length + [a].length = m from hm.symm]
    exact hr.step hs2 (by omega)
  · rw [if_neg e, if_neg e]
    exact ((h.each j hj).step hs (by omega)).step hs2 (by omega)
theorem BkS.rows {d : List Au.St} (h : BkS w0 w κ g n x (Au.back d)) (hn : n ≤ 9223372036854775807) : RowsS (fun g => w0.heap.size ≤ g) w (.slice (some ⟨g, 0, none⟩) n n) ((List.range n).map (Au.back d)) := by
  have hl : ((List.range n).map (Au.back d)).length = n := by simp
  refine ⟨some ⟨g, 0, none⟩, n, by rw [hl], by rw [hl]; exact Nat.le_refl _, hn, fun _ => ⟨g, 0, rfl, h.row.lt, h.lo g h.row.lt (by rw [h.kg]; decide), fun j hj => ?_⟩⟩
  have hj' : j < n := by rw [hl] at hj; exact hj
  refine ⟨x j, by rw [Nat.zero_add]; exact h.row.cell hj', ?_⟩
  rw [List.getElem_map, List.getElem_range]
  have hr := h.each j hj'
  obtain ⟨a, cap, h1, h2, h3, h4⟩ := hr.form
  refine ⟨a, cap, h1, h2, h3, fun h0 => ?_⟩
  obtain ⟨g', h5, h6, h7, _, h8⟩ := h4 h0
  refine ⟨g', 0, h5, h6, h.lo g' h6 (by rw [h7]; omega), fun k hk => ?_⟩
  obtain ⟨q1, q2, q3⟩ := arcsV_at (Au.back d j) k hk
  rw [Nat.zero_add]
  exact ⟨h8 _ _ q1, h8 _ _ q2, h8 _ _ q3⟩
end

set_option maxRecDepth 100000 in
set_option maxHeartbeats 4000000 in
theorem backward_any (F : Nat → Prop) (w : World) (u : Value) (d : List Au.St) (n : Nat) (hd : d.length = n) (hf : Au.Fits d) (hu : StS F w u d) :
    Calls Try.prog 42 #[u] w fun e w' => ∃ v, e = .returned v ∧ RowsS (fun g => w.heap.size ≤ g) w' v ((List.range n).map (Au.back d)) ∧ Below w.heap.size w w' := by
  have hn2 : n ≤ 20000 := by have := hf.top; omega
  have hn0 : 0 < n := by have := hf.pos; omega
  obtain ⟨ad, cd, rfl, _, _, hdc⟩ := hu
  obtain ⟨gd, od, rfl, lgd, _, hdc⟩ := hdc (by omega)
  have HDC := Lib.hid hdc
  have HDN := Lib.hid hd
  have HROW := Lib.hid (Au.arcsOf_row hf.row)
  have HFEW := Lib.hid (fun i k t => Au.backTo_few hf.row i k t)
  have hmk := run_make_row' (P := Try.prog) 84 22 (.slice none 0 0) 24 Try.underlying84 Try.infoAs2 rfl .i64 .i64 n (by omega) (by omega)
  have H0 : Hid (BkS w (w.alloc (.cells (madeCells #[.slice none 0 0] n) 22)) (fun k => if k = w.heap.size then 1 else 0) w.heap.size n (fun _ => .slice none 0 0) (Au.backTo d 0 0)) := by
    have : Au.backTo d 0 0 = fun _ => [] := funext fun t => Au.backTo_zero d t
    rw [this]
    exact BkS.start w n
  rw [hd]
  clear hdc hd hf
  go_enter Try.func42, Try.ntmps42
  go_wp2_with fail
  generalize w.alloc (.cells (madeCells #[.slice none 0 0] n) 22) = w1 at *
  go_loopg [13] n (fun gg s13 wx => ∃ (i : Nat) (κ : Nat → Nat) (x : Nat → Value), i ≤ n ∧ gg = n - i ∧ s13 = .int .i64 i ∧ Hid (BkS w wx κ w.heap.size n x (Au.backTo d i 0)))
  case atStart => exact ⟨0, _, _, Nat.zero_le _, rfl, rfl, H0⟩
  case round =>
    clear H0
    obtain ⟨i, κ, x, hi, rfl, rfl, hP⟩ := hrel
    by_cases hin : i < n
    · have j1 : (i : Int) < (n : Int) := by omega
      have hid : i < d.length := by rw [HDN.out]; exact hin
      obtain ⟨c1, va, c2, hA⟩ := HDC.out i hid
      have hbl := hP.out.below
      have e1 := (cell_same (a := ⟨gd, od + i * 2, none⟩) (hbl.block gd lgd)).trans c1
      have e2 := (cell_same (a := ⟨gd, od + i * 2 + 1, none⟩) (hbl.block gd lgd)).trans c2
      have hao : Au.arcsOf d i = d[i].arcs := by simp [Au.arcsOf, List.getElem?_eq_getElem hid]
      rw [← hao] at hA
      have hrw : Hid (Au.Row n 256 (Au.arcsOf d i)) := by
        have h := HROW.out i
        rw [HDN.out] at h
        exact h
      generalize d[i].fin = fin at *
      have hm2 : (Au.arcsOf d i).length ≤ 256 := by have := Au.row_few2 hrw.out; omega
      obtain ⟨aa, ca, rfl, _, _, hac⟩ := hA
      obtain ⟨m, hm⟩ : ∃ m, m = (Au.arcsOf d i).length := ⟨_, rfl⟩
      have HM := Lib.hid hm
      have HAC := Lib.hid hac
      rw [← hm] at hm2 e2
      have h1 := hP.out.step (Step.of_alloc (c := 2) wr (.cells #[.bool fin, .slice aa m ca] 64)) (by decide) (by decide) (by decide)
      have HP1 := Lib.hid h1
      clear hac hm hP h1 c1 c2 hbl hao
      go_wp2_with fail
      generalize wr.alloc (.cells #[.bool fin, .slice aa m ca] 64) = w2 at *
      generalize paint κ wr.heap.size 2 = κ2 at *
      go_loopg [21] m (fun gg s21 wx => ∃ (k : Nat) (κ : Nat → Nat) (x : Nat → Value), k ≤ m ∧ gg = m - k ∧ s21 = .int .i64 k ∧ Hid (BkS w wx κ w.heap.size n x (Au.backTo d i k)))
      case atStart => exact ⟨0, _, _, Nat.zero_le _, rfl, rfl, HP1⟩
      case round =>
        clear HP1 e1 e2
        obtain ⟨k, κ, x, hk, rfl, rfl, hP⟩ := hrel
        by_cases hkm : k < m
        · have j2 : (k : Int) < (m : Int) := by omega
          have hkl : k < (Au.arcsOf d i).length := by rw [← HM.out]; exact hkm
          obtain ⟨g2, o2, rfl, lg2, _, hcc⟩ := HAC.out (by omega)
          obtain ⟨d1, d2, d3⟩ := hcc k hkl
          have hbl := hP.out.below
          have e1 := (cell_same (a := ⟨g2, o2 + k * 3, none⟩) (hbl.block g2 lg2)).trans d1
          have e2 := (cell_same (a := ⟨g2, o2 + k * 3 + 1, none⟩) (hbl.block g2 lg2)).trans d2
          have e3 := (cell_same (a := ⟨g2, o2 + k * 3 + 2, none⟩) (hbl.block g2 lg2)).trans d3
          obtain ⟨y1, y2, y3, y4, y5⟩ := hrw.out.1 k hkl
          have hpt := Lib.hid (fun t0 => Au.backTo_put d i k t0 hkl)
          have hfw := HFEW.out i k
          clear d1 d2 d3 hcc
          generalize (Au.arcsOf d i)[k] = ar at *
          obtain ⟨lo, hi', ato⟩ := ar
          dsimp only at e1 e2 e3 hpt y1 y2 y3 y4 y5
          obtain ⟨t0, rfl⟩ : ∃ t0 : Nat, ato = (t0 : Int) := ⟨ato.toNat, by omega⟩
          have ht0 : t0 < n := by omega
          have j3 : (t0 : Int) < (n : Int) := by omega
          have hl0 := hfw t0 (by omega) (by omega)
          have hpt := Lib.hid (hpt.out t0 rfl)
          have h1 := hP.out.step (Step.of_alloc (c := 2) wr (.cells #[.int .i64 lo, .int .i64 hi', .int .i64 (t0 : Int)] 44)) (by decide) (by decide) (by decide)
          obtain ⟨D, hDD⟩ : ∃ D, wr.heap.size = D := ⟨_, rfl⟩
          have hkD : Hid (paint κ D 2 D = 2) := paint_new _ _ _ _ (by omega)
          have hDb : Hid ((wr.alloc (.cells #[.int .i64 lo, .int .i64 hi', .int .i64 (t0 : Int)] 44)).heap[D]? = some (.cells #[.int .i64 lo, .int .i64 hi', .int .i64 (t0 : Int)] 44 (0, 0))) := by rw [← hDD]; exact Go.Deep.blk_alloc_new _ _
          have HP2 := Lib.hid h1
          clear hP h1 hbl hfw
          go_upto_region 8 with (fail)
          generalize wr.alloc (.cells #[.int .i64 lo, .int .i64 hi', .int .i64 (t0 : Int)] 44) = wa at *
          rw [hDD] at HP2
          generalize paint κ D 2 = κ3 at *
          have hDl : D < wa.heap.size := (Array.getElem?_eq_some_iff.1 hDb.out).1
          have HDW : Hid (∀ W : World, W.heap[D]? = wa.heap[D]? → W.cell? ⟨D, 0, none⟩ = some (.int .i64 lo) ∧ W.cell? ⟨D, 1, none⟩ = some (.int .i64 hi') ∧ W.cell? ⟨D, 2, none⟩ = some (.int .i64 (t0 : Int))) := fun W hW => by
            have h := hW.trans hDb.out
            refine ⟨?_, ?_, ?_⟩ <;> simp [World.cell?, h]
          obtain ⟨a0, a1, a2⟩ := HDW.out wa rfl
          obtain ⟨b0, b1, b2⟩ := HDW.out wa.drew rfl
          obtain ⟨q0, q1, q2⟩ := HDW.out (wa.alloc (.cells #[.int .i64 lo, .int .i64 hi', .int .i64 (i : Int)] 44)).drew (Go.Deep.blk_alloc_lt wa _ _ hDl)
          obtain ⟨T, hT⟩ : ∃ T, T = Au.backTo d i k := ⟨_, rfl⟩
          rw [← hT] at HP2 hpt hl0
          have hrr : Hid (RowC κ3 (10 + t0) wa 44 3 (x t0) (T t0).length (arcsV (T t0))) := HP2.out.each t0 ht0
          have r1 := HP2.out.row.cell ht0
          have r2 : wa.drew.cell? ⟨w.heap.size, t0, none⟩ = some (x t0) := r1
          have r3 : (wa.alloc (.cells #[.int .i64 lo, .int .i64 hi', .int .i64 (i : Int)] 44)).drew.cell? ⟨w.heap.size, t0, none⟩ = some (x t0) := (HP2.out.row.alloc _).cell ht0
          have hPU : Hid (∀ g cp' w3, RowC (paint κ3 wa.heap.size (10 + t0)) (10 + t0) w3 44 3 (.slice (some ⟨g, 0, none⟩) ((T t0).length + 1) cp') ((T t0).length + 1) (arcsV (T t0) ++ [.int .i64 lo, .int .i64 hi', .int .i64 (i : Int)]) → Step κ3 (10 + t0) wa w3 (paint κ3 wa.heap.size (10 + t0)) → _) := fun g cp' w3 k1 k2 => HP2.out.push (a := ⟨lo, hi', (i : Int)⟩) ht0 k1 rfl k2
          have hDK : Hid (∀ (κ' : Nat → Nat) w5, Step κ3 (10 + t0) wa w5 κ' → w5.heap[D]? = wa.heap[D]?) := fun κ' w5 hs => hs.block D hDl (by rw [hkD.out]; omega)
          have hBE : Hid (Below wa.heap.size wa ((wa.alloc (.cells #[.int .i64 lo, .int .i64 hi', .int .i64 (i : Int)] 44)).drew)) := ((Below.refl _ _).alloc (Nat.le_refl _) _).drew
          have hnw : Hid (∀ (j : Nat) (u : Value), [Value.int .i64 lo, .int .i64 hi', .int .i64 (i : Int)][j]? = some u → ((wa.alloc (.cells #[.int .i64 lo, .int .i64 hi', .int .i64 (i : Int)] 44)).drew).cell? ((⟨wa.heap.size, 0, none⟩ : Addr).add j) = some u) := fun j u h => new_cells wa [.int .i64 lo, .int .i64 hi', .int .i64 (i : Int)] _ j u h
          rw [hpt.out] at hPU
          have hDg : Hid (D ≠ w.heap.size) := fun e => by
            have h1 := hkD.out
            have h2 := HP2.out.kg
            rw [e] at h1
            omega
          clear HP2 hT hDb hpt
          generalize x t0 = vj at *
          obtain ⟨i1, hi1, hy0, hy1, hy2⟩ := info_parts Try.infoA
          refine wp_region_held_drew (S := fun wx => wx.cell? ⟨D, 0, none⟩ = some (.int .i64 lo) ∧ wx.cell? ⟨D, 1, none⟩ = some (.int .i64 hi') ∧ wx.cell? ⟨D, 2, none⟩ = some (.int .i64 (t0 : Int))) (by kernel_rfl) ⟨b0, b1, b2⟩ (fun hHeld => ?_)
          refine wpAnyH_take (i := 0) (fuel := 17) (oi := ⟨_, _, _, _, _, _⟩) (v := ?_) rfl (by kernel_rfl) (by kernel_rfl) (by kernel_rfl) (fun _ _ _ h => h) (Or.inl ⟨by rfl, ?_⟩) (by assumption) ?_
          rotate_left
          · intro w _
            first | (go_simp; done) | (go_simp; with_reducible rfl)
          simp only [Act.put, List.setIfInBounds_toArray, List.set_cons_zero, List.set_cons_succ]
          refine wpAnyH_take (i := 1) (fuel := 16) (oi := ⟨_, _, _, _, _, _⟩) (v := ?_) rfl (by kernel_rfl) (by kernel_rfl) (by kernel_rfl) (fun _ _ _ h => h) (Or.inl ⟨by rfl, ?_⟩) (by assumption) ?_
          rotate_left
          · intro w _
            first | (go_simp; done) | (go_simp; with_reducible rfl)
          simp only [Act.put, List.setIfInBounds_toArray, List.set_cons_zero, List.set_cons_succ]
          refine wpAnyH_take (i := 2) (fuel := 15) (oi := ⟨_, _, _, _, _, _⟩) (v := ?_) rfl (by kernel_rfl) (by kernel_rfl) (by kernel_rfl) (fun _ _ _ h => h) (Or.inl ⟨by rfl, ?_⟩) (by assumption) ?_
          rotate_left
          · intro w hSw
            obtain ⟨_, _, h3⟩ := hSw
            first | (go_simp; done) | (go_simp; with_reducible rfl)
          simp only [Act.put, List.setIfInBounds_toArray, List.set_cons_zero, List.set_cons_succ]
          refine wpAnyH_take (i := 3) (fuel := 14) (oi := ⟨_, _, _, _, _, _⟩) (v := ?_) rfl (by kernel_rfl) (by kernel_rfl) (by kernel_rfl) (fun _ _ _ h => h) (Or.inl ⟨by rfl, ?_⟩) (by assumption) ?_
          rotate_left
          · intro w _
            first | (go_simp; done) | (go_simp; with_reducible rfl)
          simp only [Act.put, List.setIfInBounds_toArray, List.set_cons_zero, List.set_cons_succ]
          refine wpAnyH_take (i := 4) (fuel := 13) (oi := ⟨_, _, _, _, _, _⟩) (v := ?_) rfl (by kernel_rfl) (by kernel_rfl) (by kernel_rfl) (fun _ _ _ h => h) (Or.inl ⟨by rfl, ?_⟩) (by assumption) ?_
          rotate_left
          · intro w _
            first | (go_simp; done) | (go_simp; with_reducible rfl)
          simp only [Act.put, List.setIfInBounds_toArray, List.set_cons_zero, List.set_cons_succ]
          refine wpAnyH_take (i := 5) (fuel := 12) (oi := ⟨_, _, _, _, _, _⟩) (v := ?_) rfl (by kernel_rfl) (by kernel_rfl) (by kernel_rfl) (fun _ _ _ h => h) (Or.inl ⟨by rfl, ?_⟩) (by assumption) ?_
          rotate_left
          · intro w hSw
            obtain ⟨_, _, h3⟩ := hSw
            first | (go_simp; done) | (go_simp; with_reducible rfl)
          simp only [Act.put, List.setIfInBounds_toArray, List.set_cons_zero, List.set_cons_succ]
          refine wpAnyH_take (i := 6) (fuel := 11) (oi := ⟨_, _, _, _, _, _⟩) (v := ?_) rfl (by kernel_rfl) (by kernel_rfl) (by kernel_rfl) (fun _ _ _ h => h) (Or.inl ⟨by rfl, ?_⟩) (by assumption) ?_
          rotate_left
          · intro w _
            first | (go_simp; done) | (go_simp; with_reducible rfl)
          simp only [Act.put, List.setIfInBounds_toArray, List.set_cons_zero, List.set_cons_succ]
          refine wpAnyH_take (i := 8) (fuel := 10) (oi := ⟨_, _, _, _, _, _⟩) (v := ?_) rfl (by kernel_rfl) (by kernel_rfl) (by kernel_rfl) (fun _ _ _ h => h) (Or.inl ⟨by rfl, ?_⟩) (by assumption) ?_
          rotate_left
          · intro w _
            first | (go_simp; done) | (go_simp; with_reducible rfl)
          simp only [Act.put, List.setIfInBounds_toArray, List.set_cons_zero, List.set_cons_succ]
          refine wpAnyH_take (i := 9) (fuel := 9) (oi := ⟨_, _, _, _, _, _⟩) (v := ?_) rfl (by kernel_rfl) (by kernel_rfl) (by kernel_rfl) (fun _ _ _ h => h) (Or.inl ⟨by rfl, ?_⟩) (by assumption) ?_
          rotate_left
          · intro w hSw
            obtain ⟨h1, _, _⟩ := hSw
            first | (go_simp; done) | (go_simp; with_reducible rfl)
          simp only [Act.put, List.setIfInBounds_toArray, List.set_cons_zero, List.set_cons_succ]
          refine wpAnyH_take (i := 10) (fuel := 8) (oi := ⟨_, _, _, _, _, _⟩) (v := ?_) rfl (by kernel_rfl) (by kernel_rfl) (by kernel_rfl) (fun _ _ _ h => h) (Or.inl ⟨by rfl, ?_⟩) (by assumption) ?_
          rotate_left
          · intro w _
            first | (go_simp; done) | (go_simp; with_reducible rfl)
          simp only [Act.put, List.setIfInBounds_toArray, List.set_cons_zero, List.set_cons_succ]
          refine wpAnyH_take (i := 11) (fuel := 7) (oi := ⟨_, _, _, _, _, _⟩) (v := ?_) rfl (by kernel_rfl) (by kernel_rfl) (by kernel_rfl) (fun _ _ _ h => h) (Or.inl ⟨by rfl, ?_⟩) (by assumption) ?_
          rotate_left
          · intro w hSw
            obtain ⟨_, h2, _⟩ := hSw
            first | (go_simp; done) | (go_simp; with_reducible rfl)
          simp only [Act.put, List.setIfInBounds_toArray, List.set_cons_zero, List.set_cons_succ]
          refine wpAnyH_take (i := 12) (fuel := 6) (oi := ⟨_, _, _, _, _, _⟩) (v := ?_) rfl (by kernel_rfl) (by kernel_rfl) (by kernel_rfl) (fun _ _ _ h => h) (Or.inl ⟨by rfl, ?_⟩) (by assumption) ?_
          rotate_left
          · intro w _
            first | (go_simp; done) | (go_simp; with_reducible rfl)
          simp only [Act.put, List.setIfInBounds_toArray, List.set_cons_zero, List.set_cons_succ]
          refine wpAnyH_take (i := 13) (fuel := 5) (oi := ⟨_, _, _, _, _, _⟩) (v := ?_) rfl (by kernel_rfl) (by kernel_rfl) (by kernel_rfl) (fun _ _ _ h => h) (Or.inl ⟨by rfl, ?_⟩) (by assumption) ?_
          rotate_left
          · intro w _
            first | (go_simp; done) | (go_simp; with_reducible rfl)
          simp only [Act.put, List.setIfInBounds_toArray, List.set_cons_zero, List.set_cons_succ]
          refine wpAnyH_ready (rs := [7, 14]) (by kernel_rfl) (by simp) ?_
          refine AllReadyH.cons (o := ⟨_, _, _, _, _, _⟩) rfl (fun K hK => ?_) ?_
          · go_simp
            refine hK.out _ _ ⟨b0, b1, b2⟩ (fun hHeld => ?_)
            clear hK K
            refine wpAnyH_ready (rs := [14]) (by kernel_rfl) (by simp) ?_
            refine AllReadyH.cons (o := ⟨_, _, _, _, _, _⟩) rfl (fun K hK => ?_) AllReadyH.nil
            go_simp
            refine hK.out _ _ ⟨q0, q1, q2⟩ (fun hHeld => ?_)
            clear hK K
            refine wpAnyH_ready (rs := [15]) (by kernel_rfl) (by simp) ?_
            refine AllReadyH.cons (o := ⟨_, _, _, _, _, _⟩) rfl (fun K hK => ?_) AllReadyH.nil
            refine step_pushC (by rfl) _ _ 22 44 (by rfl) i1 _ 3 24 Try.underlying22 hi1 hy0 hy1 hy2 rfl (by decide) κ3 (10 + t0) _ (T t0).length (arcsV (T t0)) (by rfl) hrr.out hBE.out [.int .i64 lo, .int .i64 hi', .int .i64 (i : Int)] rfl (one_of rfl) ⟨wa.heap.size, 0, none⟩ hnw.out (by rfl) (by omega) (by omega) ?_
            intro g5 cp5 w5 hr5 hs5
            obtain ⟨⟨k1, k2⟩, hP5⟩ := hPU.out g5 cp5 w5 hr5 hs5
            obtain ⟨z0, z1, z2⟩ := HDW.out w5 (hDK.out _ w5 hs5)
            have z3 := HDW.out (w5.setCell ⟨w.heap.size, t0, none⟩ (.slice (some ⟨g5, 0, none⟩) ((T t0).length + 1) cp5)) ((heap_other _ _ _ _ _ hDg.out).trans (hDK.out _ w5 hs5))
            have HP5 := Lib.hid hP5
            clear hr5 hs5 hP5
            refine hK.out _ _ ⟨z0, z1, z2⟩ (fun hHeld => ?_)
            clear hK K
            simp only [Act.put, List.setIfInBounds_toArray, List.set_cons_zero, List.set_cons_succ]
            refine wpAnyH_ready (rs := [16]) (by kernel_rfl) (by simp) ?_
            refine AllReadyH.cons (o := ⟨_, _, _, _, _, _⟩) rfl (fun K hK => ?_) AllReadyH.nil
            go_simp
            refine hK.out _ _ ⟨z0, z1, z2⟩ (fun hHeld => ?_)
            clear hK K
            refine wpAnyH_ready (rs := [17]) (by kernel_rfl) (by simp) ?_
            refine AllReadyH.cons (o := ⟨_, _, _, _, _, _⟩) rfl (fun K hK => ?_) AllReadyH.nil
            go_simp
            refine hK.out _ _ z3 (fun hHeld => ?_)
            clear hK K
            refine wpAnyH_done (by kernel_rfl) ?_ _
            go_wp2_with fail
            go_roundg (m - (k + 1))
            case rel => exact ⟨k + 1, _, _, by omega, rfl, by go_num, HP5⟩
            case measure => omega
          refine AllReadyH.cons (o := ⟨_, _, _, _, _, _⟩) rfl (fun K hK => ?_) AllReadyH.nil
          go_simp
          refine hK.out _ _ ⟨q0, q1, q2⟩ (fun hHeld => ?_)
          clear hK K
          refine wpAnyH_ready (rs := [7]) (by kernel_rfl) (by simp) ?_
          refine AllReadyH.cons (o := ⟨_, _, _, _, _, _⟩) rfl (fun K hK => ?_) AllReadyH.nil
          go_simp
          refine hK.out _ _ ⟨q0, q1, q2⟩ (fun hHeld => ?_)
          clear hK K
          refine wpAnyH_ready (rs := [15]) (by kernel_rfl) (by simp) ?_
          refine AllReadyH.cons (o := ⟨_, _, _, _, _, _⟩) rfl (fun K hK => ?_) AllReadyH.nil
          refine step_pushC (by rfl) _ _ 22 44 (by rfl) i1 _ 3 24 Try.underlying22 hi1 hy0 hy1 hy2 rfl (by decide) κ3 (10 + t0) _ (T t0).length (arcsV (T t0)) (by rfl) hrr.out hBE.out [.int .i64 lo, .int .i64 hi', .int .i64 (i : Int)] rfl (one_of rfl) ⟨wa.heap.size, 0, none⟩ hnw.out (by rfl) (by omega) (by omega) ?_
          intro g5 cp5 w5 hr5 hs5
          obtain ⟨⟨k1, k2⟩, hP5⟩ := hPU.out g5 cp5 w5 hr5 hs5
          obtain ⟨z0, z1, z2⟩ := HDW.out w5 (hDK.out _ w5 hs5)
          have z3 := HDW.out (w5.setCell ⟨w.heap.size, t0, none⟩ (.slice (some ⟨g5, 0, none⟩) ((T t0).length + 1) cp5)) ((heap_other _ _ _ _ _ hDg.out).trans (hDK.out _ w5 hs5))
          have HP5 := Lib.hid hP5
          clear hr5 hs5 hP5
          refine hK.out _ _ ⟨z0, z1, z2⟩ (fun hHeld => ?_)
          clear hK K
          simp only [Act.put, List.setIfInBounds_toArray, List.set_cons_zero, List.set_cons_succ]
          refine wpAnyH_ready (rs := [16]) (by kernel_rfl) (by simp) ?_
          refine AllReadyH.cons (o := ⟨_, _, _, _, _, _⟩) rfl (fun K hK => ?_) AllReadyH.nil
          go_simp
          refine hK.out _ _ ⟨z0, z1, z2⟩ (fun hHeld => ?_)
          clear hK K
          refine wpAnyH_ready (rs := [17]) (by kernel_rfl) (by simp) ?_
          refine AllReadyH.cons (o := ⟨_, _, _, _, _, _⟩) rfl (fun K hK => ?_) AllReadyH.nil
          go_simp
          refine hK.out _ _ z3 (fun hHeld => ?_)
          clear hK K
          refine wpAnyH_done (by kernel_rfl) ?_ _
          go_wp2_with fail
          go_roundg (m - (k + 1))
          case rel => exact ⟨k + 1, _, _, by omega, rfl, by go_num, HP5⟩
          case measure => omega
        · obtain rfl : k = m := by omega
          have hP2 : Hid (BkS w wr κ w.heap.size n x (Au.backTo d (i + 1) 0)) := by
            have : Au.backTo d (i + 1) 0 = Au.backTo d i k := funext fun t => by rw [HM.out]; exact (Au.backTo_row d i t).symm
            rw [this]
            exact hP
          clear hP
          go_wp2_with fail
          go_roundg (n - (i + 1))
          case rel => exact ⟨i + 1, _, _, by omega, rfl, by go_num, hP2⟩
          case measure => omega
    · obtain rfl : i = n := by omega
      have hP2 : Hid (BkS w wr κ w.heap.size i x (Au.back d)) := by
        have : Au.back d = Au.backTo d i 0 := funext fun t => by
          have := Au.backTo_all d t
          rw [HDN.out] at this
          exact this.symm
        rw [this]
        exact hP
      clear hP
      go_wp2_with fail
      go_ret
      exact ⟨_, rfl, hP2.out.rows (by omega), hP2.out.below⟩
end Go.Proofs.Ytpoeklgoepjikaa
