/- Proved: for every instruction (any two ints, any texts) and every line the law CodeBack answers true, and leaves what it was handed as it was, where the package's variable 'words', the library's table of powers of ten and strconv's two errors hold what their own initialisers lay (the card ties them to the program's text); math/bits' two tables are listed besides, and no run reads them. -/
import Derived.Shelf.Strconv.ErrVarAll
import Derived.Shelf.Strings.IndexAnyAll
import Derived.Shelf.Strings.Search1
import Derived.Shelf.Small.Utf8
import Derived.Shelf.Small.Strs
import Derived.Test.YtijlipllahfakaaDoorProg
import Derived.Test.YtijlipllahfakaaDoorCodeS
import Derived.Test.YtijlipllahfakaaDoorCodeJd
import Derived.Lib.AtoiAll
import Derived.Test.YtijlipllahfakaaDoorOwnY
import Derived.Test.YtijlipllahfakaaDoorLaid
import Derived.Test.YtijlipllahfakaaDoorCodeI
import Derived.Laws.RangeAny
import Derived.Lib.OthersKept
import Derived.Deep.RegionWith
import Derived.Test.YtijlipllahfakaaDoorOwnP
import Derived.Lib.AtoiTie
import Derived.Deep.Slices
import Derived.Laws.Rows
import Derived.Test.YtijlipllahfakaaDoorCodeE
import Derived.Test.YtijlipllahfakaaDoorCodeF
import Derived.Test.YtijlipllahfakaaDoorCodeL
import Derived.Deep.Strs
import Derived.SizedLaws
import Derived.Lib.SmallJoins
import Derived.Test.YtijlipllahfakaaDoorCards
import Derived.Test.YtijlipllahfakaaDoorTie
import Derived.ProofKit
import Derived.Lay
import Derived.SevenTiedAt
import Derived.Stop.LaidErr
namespace Go.Proofs.YtijlipllahfakaaDoor
open Go.Shelf
def Tryd.lays119_ren : Go.Shelf.Ren := ⟨fun | 119 => 81 | n => n, fun | 21 => 21 | 4 => 4 | n => n, fun | n => n⟩
theorem Tryd.lays119 : Go.Proofs.Lays.n119 Tryd.prog Tryd.lays119_ren := {
  mixed := by kernel_rfl
  f119 := Tryd.func81.trans (congrArg some (by kernel_rfl))
  t4 := Tryd.underlying4
  a4 := Tryd.isAgg4
  z4 := Tryd.sizeOf4
  v4 := Tryd.zeroValue4
  t21 := Tryd.underlying21
  a21 := Tryd.isAgg21
  z21 := Tryd.sizeOf21
  v21 := Tryd.zeroValue21 }
theorem Tryd.utf8_ValidRune (r : Int) (w : World) :
    Calls Tryd.prog 81 #[.int .i32 r] w fun e w' => e = .returned (.bool (Lib.validRune r)) ∧ w' = w := Any.utf8_ValidRune Tryd.lays119 r w
def Tryd.lays137_ren : Go.Shelf.Ren := ⟨fun | 137 => 80 | 217 => 84 | 266 => 90 | n => n, fun | 9 => 9 | 5 => 5 | 3 => 3 | n => n, fun | n => n⟩
theorem Tryd.lays137 : Go.Proofs.Lays.n137 Tryd.prog Tryd.lays137_ren := {
  mixed := by kernel_rfl
  f137 := Tryd.func80.trans (congrArg some (by kernel_rfl))
  f217 := Tryd.func84.trans (congrArg some (by kernel_rfl))
  f266 := Tryd.func90.trans (congrArg some (by kernel_rfl))
  t3 := Tryd.underlying3
  a3 := Tryd.isAgg3
  z3 := Tryd.sizeOf3
  v3 := Tryd.zeroValue3
  t5 := Tryd.underlying5
  a5 := Tryd.isAgg5
  z5 := Tryd.sizeOf5
  v5 := Tryd.zeroValue5
  t9 := Tryd.underlying9
  a9 := Tryd.isAgg9
  z9 := Tryd.sizeOf9
  v9 := Tryd.zeroValue9 }
open Go.RowKit in
theorem Tryd.strings_IndexByte (s : ByteArray) (c : Int) (w : World) :
    Calls Tryd.prog 80 #[.string s, .int .u8 c] w fun e w' => e = .returned (.int .i64 (Lib.indexByte s.data.toList c.toNat.toUInt8)) ∧ w' = w := Any.strings_IndexByte Tryd.lays137 s c w
def Tryd.laysC172_ren : Go.Shelf.Ren := ⟨fun | 172 => 86 | 244 => 92 | 245 => 93 | 247 => 98 | 279 => 99 | 280 => 100 | 281 => 101 | 282 => 102 | 287 => 108 | 316 => 109 | 171 => 55 | 205 => 110 | 321 => 113 | 322 => 114 | 243 => 73 | 246 => 88 | 283 => 94 | 284 => 95 | 285 => 96 | 286 => 97 | 129 => 104 | 317 => 103 | 318 => 105 | 319 => 106 | 320 => 107 | 337 => 111 | 338 => 112 | n => n, fun | 9 => 9 | 3 => 3 | 75 => 103 | 76 => 104 | 4 => 4 | 5 => 5 | 167 => 119 | 37 => 75 | 0 => 0 | 85 => 120 | 2 => 2 | 168 => 122 | 53 => 114 | 175 => 129 | 46 => 100 | 210 => 133 | 127 => 137 | 145 => 140 | 143 => 138 | 21 => 21 | 171 => 113 | 173 => 117 | 212 => 126 | 51 => 109 | 20 => 20 | 213 => 127 | 232 => 141 | 233 => 142 | 80 => 143 | n => n, fun | 15 => 3 | 16 => 4 | 17 => 2 | 18 => 5 | 19 => 6 | n => n⟩
theorem Tryd.laysC172 : Go.Proofs.LaysC.n172 Tryd.prog Tryd.laysC172_ren := {
  mixed := by kernel_rfl
  f129 := Tryd.func104.trans (congrArg some (by kernel_rfl))
  f171 := Tryd.func55.trans (congrArg some (by kernel_rfl))
  f172 := Tryd.func86.trans (congrArg some (by kernel_rfl))
  f205 := Tryd.func110.trans (congrArg some (by kernel_rfl))
  f243 := Tryd.func73.trans (congrArg some (by kernel_rfl))
  f244 := Tryd.func92.trans (congrArg some (by kernel_rfl))
  f245 := Tryd.func93.trans (congrArg some (by kernel_rfl))
  f246 := Tryd.func88.trans (congrArg some (by kernel_rfl))
  f247 := Tryd.func98.trans (congrArg some (by kernel_rfl))
  f279 := Tryd.func99.trans (congrArg some (by kernel_rfl))
  f280 := Tryd.func100.trans (congrArg some (by kernel_rfl))
  f281 := Tryd.func101.trans (congrArg some (by kernel_rfl))
  f282 := Tryd.func102.trans (congrArg some (by kernel_rfl))
  f283 := Tryd.func94.trans (congrArg some (by kernel_rfl))
  f284 := Tryd.func95.trans (congrArg some (by kernel_rfl))
  f285 := Tryd.func96.trans (congrArg some (by kernel_rfl))
  f286 := Tryd.func97.trans (congrArg some (by kernel_rfl))
  f287 := Tryd.func108.trans (congrArg some (by kernel_rfl))
  f316 := Tryd.func109.trans (congrArg some (by kernel_rfl))
  f317 := Tryd.func103.trans (congrArg some (by kernel_rfl))
  f318 := Tryd.func105.trans (congrArg some (by kernel_rfl))
  f319 := Tryd.func106.trans (congrArg some (by kernel_rfl))
  f320 := Tryd.func107.trans (congrArg some (by kernel_rfl))
  f321 := Tryd.func113.trans (congrArg some (by kernel_rfl))
  f322 := Tryd.func114.trans (congrArg some (by kernel_rfl))
  f337 := Tryd.func111.trans (congrArg some (by kernel_rfl))
  f338 := Tryd.func112.trans (congrArg some (by kernel_rfl))
  t0 := Tryd.underlying0
  a0 := Tryd.isAgg0
  z0 := Tryd.sizeOf0
  v0 := Tryd.zeroValue0
  t2 := Tryd.underlying2
  a2 := Tryd.isAgg2
  z2 := Tryd.sizeOf2
  v2 := Tryd.zeroValue2
  t3 := Tryd.underlying3
  a3 := Tryd.isAgg3
  z3 := Tryd.sizeOf3
  v3 := Tryd.zeroValue3
  t4 := Tryd.underlying4
  a4 := Tryd.isAgg4
  z4 := Tryd.sizeOf4
  v4 := Tryd.zeroValue4
  t5 := Tryd.underlying5
  a5 := Tryd.isAgg5
  z5 := Tryd.sizeOf5
  v5 := Tryd.zeroValue5
  t9 := Tryd.underlying9
  a9 := Tryd.isAgg9
  z9 := Tryd.sizeOf9
  v9 := Tryd.zeroValue9
  t20 := Tryd.underlying20
  a20 := Tryd.isAgg20
  z20 := Tryd.sizeOf20
  v20 := Tryd.zeroValue20
  t21 := Tryd.underlying21
  a21 := Tryd.isAgg21
  z21 := Tryd.sizeOf21
  v21 := Tryd.zeroValue21
  t37 := Tryd.underlying75
  a37 := Tryd.isAgg75
  z37 := Tryd.sizeOf75
  v37 := Tryd.zeroValue75
  t46 := Tryd.underlying100
  a46 := Tryd.isAgg100
  z46 := Tryd.sizeOf100
  v46 := Tryd.zeroValue100
  t51 := Tryd.underlying109
  a51 := Tryd.isAgg109
  z51 := Tryd.sizeOf109
  v51 := Tryd.zeroValue109
  t53 := Tryd.underlying114
  a53 := Tryd.isAgg114
  z53 := Tryd.sizeOf114
  v53 := Tryd.zeroValue114
  t75 := Tryd.underlying103
  a75 := Tryd.isAgg103
  z75 := Tryd.sizeOf103
  v75 := Tryd.zeroValue103
  t76 := Tryd.underlying104
  a76 := Tryd.isAgg104
  z76 := Tryd.sizeOf104
  v76 := Tryd.zeroValue104
  t85 := Tryd.underlying120
  a85 := Tryd.isAgg120
  z85 := Tryd.sizeOf120
  v85 := Tryd.zeroValue120
  t127 := Tryd.underlying137
  a127 := Tryd.isAgg137
  z127 := Tryd.sizeOf137
  v127 := Tryd.zeroValue137
  t143 := Tryd.underlying138
  a143 := Tryd.isAgg138
  z143 := Tryd.sizeOf138
  v143 := Tryd.zeroValue138
  t145 := Tryd.underlying140
  a145 := Tryd.isAgg140
  z145 := Tryd.sizeOf140
  v145 := Tryd.zeroValue140
  t167 := Tryd.underlying119
  a167 := Tryd.isAgg119
  z167 := Tryd.sizeOf119
  v167 := Tryd.zeroValue119
  t168 := Tryd.underlying122
  a168 := Tryd.isAgg122
  z168 := Tryd.sizeOf122
  v168 := Tryd.zeroValue122
  t171 := Tryd.underlying113
  a171 := Tryd.isAgg113
  z171 := Tryd.sizeOf113
  v171 := Tryd.zeroValue113
  t173 := Tryd.underlying117
  a173 := Tryd.isAgg117
  z173 := Tryd.sizeOf117
  v173 := Tryd.zeroValue117
  t175 := Tryd.underlying129
  a175 := Tryd.isAgg129
  z175 := Tryd.sizeOf129
  v175 := Tryd.zeroValue129
  t210 := Tryd.underlying133
  a210 := Tryd.isAgg133
  z210 := Tryd.sizeOf133
  v210 := Tryd.zeroValue133
  t212 := Tryd.underlying126
  a212 := Tryd.isAgg126
  z212 := Tryd.sizeOf126
  v212 := Tryd.zeroValue126
  t213 := Tryd.underlying127
  a213 := Tryd.isAgg127
  z213 := Tryd.sizeOf127
  t232 := Tryd.underlying141
  a232 := Tryd.isAgg141
  z232 := Tryd.sizeOf141
  v232 := Tryd.zeroValue141
  t233 := Tryd.underlying142
  a233 := Tryd.isAgg142
  z233 := Tryd.sizeOf142
  v233 := Tryd.zeroValue142
  g15 := by kernel_rfl
  g16 := by kernel_rfl
  g17 := by kernel_rfl
  g18 := by kernel_rfl
  g19 := by kernel_rfl
  t80 := Tryd.underlying143
  a80 := Tryd.isAgg143
  z80 := Tryd.sizeOf143
  v80 := Tryd.zeroValue143
  i0 := by kernel_rfl
  i2 := by kernel_rfl
  i3 := by kernel_rfl
  i4 := by kernel_rfl
  i5 := by kernel_rfl
  i9 := by kernel_rfl
  i20 := by kernel_rfl
  i21 := by kernel_rfl
  i37 := by kernel_rfl
  i46 := by kernel_rfl
  i51 := by kernel_rfl
  i53 := by kernel_rfl
  i75 := by kernel_rfl
  i76 := by kernel_rfl
  i80 := by kernel_rfl
  i85 := by kernel_rfl
  i127 := by kernel_rfl
  i143 := by kernel_rfl
  i145 := by kernel_rfl
  i167 := by kernel_rfl
  i168 := by kernel_rfl
  i171 := by kernel_rfl
  i173 := by kernel_rfl
  i175 := by kernel_rfl
  i210 := by kernel_rfl
  i212 := by kernel_rfl
  i232 := by kernel_rfl
  i233 := by kernel_rfl
  m15 := by kernel_rfl
  m16 := by kernel_rfl
  m17 := by kernel_rfl
  m18 := by kernel_rfl
  m19 := by kernel_rfl
  c0 := by kernel_rfl
  c2 := by kernel_rfl
  c3 := by kernel_rfl
  c4 := by kernel_rfl
  c5 := by kernel_rfl
  c9 := by kernel_rfl
  c20 := by kernel_rfl
  c21 := by kernel_rfl
  c37 := by kernel_rfl
  c46 := by kernel_rfl
  c51 := by kernel_rfl
  c53 := by kernel_rfl
  c75 := by kernel_rfl
  c76 := by kernel_rfl
  c80 := by kernel_rfl
  c85 := by kernel_rfl
  c127 := by kernel_rfl
  c143 := by kernel_rfl
  c145 := by kernel_rfl
  c167 := by kernel_rfl
  c168 := by kernel_rfl
  c171 := by kernel_rfl
  c173 := by kernel_rfl
  c175 := by kernel_rfl
  c210 := by kernel_rfl
  c212 := by kernel_rfl
  c213 := by kernel_rfl
  c232 := by kernel_rfl
  c233 := by kernel_rfl }
open Go.RowKit in
theorem Tryd.strconv_Atoi_ok (s : ByteArray) (hmax : s.size ≤ 9223372036854775806) (v : Int) (h : Lib.atoiAll s.data.toList = .ok v) (w : World) :
    Calls Tryd.prog 86 #[.string s] w fun e w' => e = .returned (.tuple #[.int .i64 v, .nilIface]) ∧ (w' = w ∨ ∃ t, w' = Lib.bytesWorld w 5 t) := Any.strconv_Atoi_ok Tryd.laysC172 s hmax v h w
open Go.RowKit in
theorem Tryd.strconv_Atoi_syntax_var (s : ByteArray) (hlim : s.size ≤ 281474976710656) (h : Lib.atoiAll s.data.toList = .«syntax») (tp : TypeId) (p : Value) (w : World) (hvar : w.var? Tryd.prog "strconv.ErrSyntax" = some #[.iface tp p]) :
    Calls Tryd.prog 86 #[.string s] w fun e w' => ∃ N, e = .returned (.tuple #[.int .i64 0, .iface 122 (.pointer (some ⟨N, 0, none⟩))]) ∧ w.heap.size ≤ N ∧ w'.heap[N]? = some (.cells #[.string ⟨#[65, 116, 111, 105]⟩, .string s, .iface tp p] 133 (0, 0)) ∧ Below w.heap.size w w' := Any.strconv_Atoi_syntax_var Tryd.laysC172 s hlim h tp p w hvar
open Go.RowKit in
theorem Tryd.strconv_Atoi_range_var (s : ByteArray) (hlim : s.size ≤ 281474976710656) (h : Lib.atoiAll s.data.toList = .range) (tp : TypeId) (p : Value) (w : World) (hvar : w.var? Tryd.prog "strconv.ErrRange" = some #[.iface tp p]) :
    Calls Tryd.prog 86 #[.string s] w fun e w' => ∃ N, e = .returned (.tuple #[.int .i64 (Lib.atoiSat s.data.toList), .iface 122 (.pointer (some ⟨N, 0, none⟩))]) ∧ w.heap.size ≤ N ∧ w'.heap[N]? = some (.cells #[.string ⟨#[65, 116, 111, 105]⟩, .string s, .iface tp p] 133 (0, 0)) ∧ Below w.heap.size w w' := Any.strconv_Atoi_range_var Tryd.laysC172 s hlim h tp p w hvar
def Tryd.lays217_ren : Go.Shelf.Ren := ⟨fun | 217 => 84 | 266 => 90 | n => n, fun | 9 => 9 | 5 => 5 | 3 => 3 | n => n, fun | n => n⟩
theorem Tryd.lays217 : Go.Proofs.Lays.n217 Tryd.prog Tryd.lays217_ren := {
  mixed := by kernel_rfl
  f217 := Tryd.func84.trans (congrArg some (by kernel_rfl))
  f266 := Tryd.func90.trans (congrArg some (by kernel_rfl))
  t3 := Tryd.underlying3
  a3 := Tryd.isAgg3
  z3 := Tryd.sizeOf3
  v3 := Tryd.zeroValue3
  t5 := Tryd.underlying5
  a5 := Tryd.isAgg5
  z5 := Tryd.sizeOf5
  v5 := Tryd.zeroValue5
  t9 := Tryd.underlying9
  a9 := Tryd.isAgg9
  z9 := Tryd.sizeOf9
  v9 := Tryd.zeroValue9 }
open Go.RowKit Go.Lib in
theorem Tryd.stringslite_IndexByte (s : ByteArray) (c : Int) (w : World) :
    Calls Tryd.prog 84 #[.string s, .int .u8 c] w fun e w' => e = .returned (.int .i64 (Lib.indexByte s.data.toList c.toNat.toUInt8)) ∧ w' = w := Any.stringslite_IndexByte Tryd.lays217 s c w
def Tryd.lays152_ren : Go.Shelf.Ren := ⟨fun | 152 => 63 | 137 => 80 | 119 => 81 | 224 => 82 | 225 => 83 | 217 => 84 | 266 => 90 | n => n, fun | 9 => 9 | 21 => 21 | 3 => 3 | 4 => 4 | 5 => 5 | 0 => 0 | 46 => 100 | n => n, fun | n => n⟩
theorem Tryd.lays152 : Go.Proofs.Lays.n152 Tryd.prog Tryd.lays152_ren := {
  mixed := by kernel_rfl
  f119 := Tryd.func81.trans (congrArg some (by kernel_rfl))
  f137 := Tryd.func80.trans (congrArg some (by kernel_rfl))
  f152 := Tryd.func63.trans (congrArg some (by kernel_rfl))
  f217 := Tryd.func84.trans (congrArg some (by kernel_rfl))
  f224 := Tryd.func82.trans (congrArg some (by kernel_rfl))
  f225 := Tryd.func83.trans (congrArg some (by kernel_rfl))
  f266 := Tryd.func90.trans (congrArg some (by kernel_rfl))
  t0 := Tryd.underlying0
  a0 := Tryd.isAgg0
  z0 := Tryd.sizeOf0
  v0 := Tryd.zeroValue0
  t3 := Tryd.underlying3
  a3 := Tryd.isAgg3
  z3 := Tryd.sizeOf3
  v3 := Tryd.zeroValue3
  t4 := Tryd.underlying4
  a4 := Tryd.isAgg4
  z4 := Tryd.sizeOf4
  v4 := Tryd.zeroValue4
  t5 := Tryd.underlying5
  a5 := Tryd.isAgg5
  z5 := Tryd.sizeOf5
  v5 := Tryd.zeroValue5
  t9 := Tryd.underlying9
  a9 := Tryd.isAgg9
  z9 := Tryd.sizeOf9
  v9 := Tryd.zeroValue9
  t21 := Tryd.underlying21
  a21 := Tryd.isAgg21
  z21 := Tryd.sizeOf21
  v21 := Tryd.zeroValue21
  t46 := Tryd.underlying100
  a46 := Tryd.isAgg100
  z46 := Tryd.sizeOf100
  v46 := Tryd.zeroValue100 }
open Go.RowKit Go.Lib in
theorem Tryd.strings_IndexRune_ascii (s : ByteArray) (r : Int) (w : World) (h0 : 0 ≤ r) (h1 : r < 128) :
    Calls Tryd.prog 63 #[.string s, .int .i32 r] w fun e w' => e = .returned (.int .i64 (Lib.indexByte s.data.toList r.toNat.toUInt8)) ∧ w' = w := Any.strings_IndexRune_ascii Tryd.lays152 s r w h0 h1
def Tryd.lays226_ren : Go.Shelf.Ren := ⟨fun | 226 => 64 | n => n, fun | 3 => 3 | 4 => 4 | n => n, fun | n => n⟩
theorem Tryd.lays226 : Go.Proofs.Lays.n226 Tryd.prog Tryd.lays226_ren := {
  mixed := by kernel_rfl
  f226 := Tryd.func64.trans (congrArg some (by kernel_rfl))
  t3 := Tryd.underlying3
  a3 := Tryd.isAgg3
  z3 := Tryd.sizeOf3
  v3 := Tryd.zeroValue3
  t4 := Tryd.underlying4
  a4 := Tryd.isAgg4
  z4 := Tryd.sizeOf4
  v4 := Tryd.zeroValue4 }
open Go.RowKit Go.Lib in
theorem Tryd.strings_shouldUseASCIISet (n : Int) (w : World) :
    Calls Tryd.prog 64 #[.int .i64 n] w fun e w' => e = .returned (.bool (decide (8 < n))) ∧ w' = w := Any.strings_shouldUseASCIISet Tryd.lays226 n w
def Tryd.lays227_ren : Go.Shelf.Ren := ⟨fun | 227 => 65 | n => n, fun | 9 => 9 | 116 => 85 | 4 => 4 | 0 => 0 | 3 => 3 | 5 => 5 | n => n, fun | n => n⟩
theorem Tryd.lays227 : Go.Proofs.Lays.n227 Tryd.prog Tryd.lays227_ren := {
  mixed := by kernel_rfl
  f227 := Tryd.func65.trans (congrArg some (by kernel_rfl))
  t0 := Tryd.underlying0
  a0 := Tryd.isAgg0
  z0 := Tryd.sizeOf0
  v0 := Tryd.zeroValue0
  t3 := Tryd.underlying3
  a3 := Tryd.isAgg3
  z3 := Tryd.sizeOf3
  v3 := Tryd.zeroValue3
  t4 := Tryd.underlying4
  a4 := Tryd.isAgg4
  z4 := Tryd.sizeOf4
  v4 := Tryd.zeroValue4
  t5 := Tryd.underlying5
  a5 := Tryd.isAgg5
  z5 := Tryd.sizeOf5
  v5 := Tryd.zeroValue5
  t9 := Tryd.underlying9
  a9 := Tryd.isAgg9
  z9 := Tryd.sizeOf9
  v9 := Tryd.zeroValue9
  t116 := Tryd.underlying85
  a116 := Tryd.isAgg85
  z116 := Tryd.sizeOf85 }
open Go.RowKit Go.Lib in
theorem Tryd.strings_makeASCIISet (hv116 : ∀ w, (zeroValue 85).run Tryd.prog w = .ok (.agg (Array.replicate 256 (.bool false))) w) (chars : ByteArray) (w : World) (hs : chars.size < 4294967281) (hascii : ∀ (j : Nat) b, chars.data.toList[j]? = some b → b.toNat < 128) :
    Calls Tryd.prog 65 #[.string chars] w fun e w' => e = .returned (.tuple #[.agg (Lib.setCells chars.data.toList), .bool true]) ∧ w' = w.alloc (.cells (Lib.setCells chars.data.toList) 85) := Any.strings_makeASCIISet Tryd.lays227 hv116 (by kernel_rfl) chars w hs hascii
def Tryd.lays228_ren : Go.Shelf.Ren := ⟨fun | 228 => 66 | n => n, fun | 124 => 101 | 5 => 5 | 4 => 4 | 0 => 0 | 116 => 85 | n => n, fun | n => n⟩
theorem Tryd.lays228 : Go.Proofs.Lays.n228 Tryd.prog Tryd.lays228_ren := {
  mixed := by kernel_rfl
  f228 := Tryd.func66.trans (congrArg some (by kernel_rfl))
  t0 := Tryd.underlying0
  a0 := Tryd.isAgg0
  z0 := Tryd.sizeOf0
  v0 := Tryd.zeroValue0
  t4 := Tryd.underlying4
  a4 := Tryd.isAgg4
  z4 := Tryd.sizeOf4
  v4 := Tryd.zeroValue4
  t5 := Tryd.underlying5
  a5 := Tryd.isAgg5
  z5 := Tryd.sizeOf5
  v5 := Tryd.zeroValue5
  t116 := Tryd.underlying85
  a116 := Tryd.isAgg85
  z116 := Tryd.sizeOf85
  t124 := Tryd.underlying101
  a124 := Tryd.isAgg101
  z124 := Tryd.sizeOf101
  v124 := Tryd.zeroValue101 }
open Go.RowKit Go.Lib in
theorem Tryd.asciiSet_contains (b : Nat) (x : UInt8) (v : Bool) (w : World) (hc : w.cell? ⟨b, x.toNat, none⟩ = some (.bool v)) :
    Calls Tryd.prog 66 #[.pointer (some ⟨b, 0, none⟩), .int .u8 x.toNat] w fun e w' => e = .returned (.bool v) ∧ w' = w := Any.asciiSet_contains Tryd.lays228 b x v w hc
end Go.Proofs.YtijlipllahfakaaDoor

namespace Go.Proofs.YtijlipllahfakaaDoor
open Go.RowKit

/-- a text, cut at its first blank -/
def notBl (c : UInt8) : Bool := !decide (c = 32)
def blankN (l : List UInt8) : Nat := spanN notBl l
def cutA (l : List UInt8) : List UInt8 := l.take (blankN l)
def cutB (l : List UInt8) : List UInt8 := l.drop (blankN l + 1)

theorem blank_app {a b : List UInt8} (h : (32 : UInt8) ∉ a) : blankN (a ++ 32 :: b) = a.length :=
  span_app notBl a b 32 (fun c hc => by simp only [notBl, Bool.not_eq_true', decide_eq_false_iff_not]; rintro rfl; exact h hc) (by decide)
theorem blank_free {a : List UInt8} (h : (32 : UInt8) ∉ a) : blankN a = a.length := by
  induction a with
  | nil => rfl
  | cons c a ih =>
    have hc : notBl c = true := by simp only [notBl, Bool.not_eq_true', decide_eq_false_iff_not]; rintro rfl; exact h (List.mem_cons_self ..)
    have := ih (fun m => h (List.mem_cons_of_mem _ m))
    simp only [blankN, spanN, List.takeWhile_cons, hc, if_true, List.length_cons] at this ⊢
    omega
theorem cutA_app {a b : List UInt8} (h : (32 : UInt8) ∉ a) : cutA (a ++ 32 :: b) = a := by rw [cutA, blank_app h]; simp
theorem cutB_app {a b : List UInt8} (h : (32 : UInt8) ∉ a) : cutB (a ++ 32 :: b) = b := by
  rw [cutB, blank_app h, show a ++ 32 :: b = (a ++ [32]) ++ b by simp, List.drop_left' (by simp)]
theorem cutA_free {a : List UInt8} (h : (32 : UInt8) ∉ a) : cutA a = a := by rw [cutA, blank_free h]; simp
theorem cutB_free {a : List UInt8} (h : (32 : UInt8) ∉ a) : cutB a = [] := by rw [cutB, blank_free h]; simp

/-- the number that strconv.Atoi reads, or 0 -/
def rdN (l : List UInt8) : Int := match Lib.atoiAll l with
  | .ok v => v
  | _ => 0

theorem fold_ge : ∀ (l : List UInt8) (acc : Nat), acc ≤ l.foldl (fun n c => n * 10 + (c.toNat - 48)) acc
  | [], acc => Nat.le_refl _
  | c :: r, acc => by
    have := fold_ge r (acc * 10 + (c.toNat - 48))
    rw [List.foldl_cons]; omega
theorem uint_digits : ∀ (l : List UInt8) (acc : Nat), l.all isDig = true → l.foldl (fun n c => n * 10 + (c.toNat - 48)) acc < 1000000000000000000 → Lib.parseUint10 acc l = .ok (l.foldl (fun n c => n * 10 + (c.toNat - 48)) acc)
  | [], acc, _, _ => rfl
  | c :: r, acc, h, hl => by
    rw [List.all_cons, Bool.and_eq_true] at h
    have h2 := h.1
    simp only [isDig, Bool.and_eq_true, decide_eq_true_eq] at h2
    rw [List.foldl_cons] at hl ⊢
    have hg := fold_ge r (acc * 10 + (c.toNat - 48))
    rw [Lib.parseUint10, if_pos h2, if_neg (by omega), if_neg (by omega)]
    exact uint_digits r _ h.2 hl
theorem dec_head (u : Nat) : ∃ c r, Lib.decDigits u = c :: r ∧ isDig c = true := by
  cases h : Lib.decDigits u with
  | nil => exact absurd h (dec_ne u)
  | cons c r =>
    have := (dec_digits u).1
    rw [h, List.all_cons, Bool.and_eq_true] at this
    exact ⟨c, r, rfl, this.1⟩
theorem mag_dec (u : Nat) (h : u < 1000000000000000000) : Lib.parseMag (Lib.decDigits u) = .ok u := by
  obtain ⟨a, b⟩ := dec_digits u
  rw [Lib.parseMag, if_neg (dec_ne u)]
  have := uint_digits (Lib.decDigits u) 0 a (by have e : digV (Lib.decDigits u) = u := b; unfold digV at e; rw [e]; exact h)
  rw [this]
  exact congrArg _ b
theorem rdN_itoa (n : Int) (h1 : -2147483648 ≤ n) (h2 : n ≤ 2147483647) : rdN (Lib.itoa n) = n := by
  by_cases hn : n < 0
  · have e : Lib.itoa n = 45 :: Lib.decDigits n.natAbs := by rw [Lib.itoa, if_pos hn]
    have hm := mag_dec n.natAbs (by omega)
    have h45 : (45 : UInt8).toNat = 45 := rfl
    have ha : Lib.atoiAll (45 :: Lib.decDigits n.natAbs) = .ok n := by
      unfold Lib.atoiAll
      simp only [h45, or_true, if_true, hm, not_true, false_and, if_false, true_and]
      rw [if_neg (by omega)]
      congr 1; omega
    rw [rdN, e, ha]
  · have e : Lib.itoa n = Lib.decDigits n.toNat := by rw [Lib.itoa, if_neg hn]
    have hm := mag_dec n.toNat (by omega)
    obtain ⟨c, r, hd, hc⟩ := dec_head n.toNat
    simp only [isDig, Bool.and_eq_true, decide_eq_true_eq] at hc
    have ha : Lib.atoiAll (Lib.decDigits n.toNat) = .ok n := by
      rw [hd] at hm ⊢
      unfold Lib.atoiAll
      have h43 : ¬ c.toNat = 43 := by omega
      have h45 : ¬ c.toNat = 45 := by omega
      simp only [h43, h45, or_self, if_false, hm, not_false_eq_true, true_and, false_and]
      rw [if_neg (by omega)]
      congr 1; omega
    rw [rdN, e, ha]

theorem par_dims {l : List UInt8} (h : parE l = 0) : (parT l).1 ≤ 255 := by
  rw [parT, if_pos h]
  unfold parE at h
  split at h
  · simp at h
  · split at h
    · rename_i t e
      split at h
      · simp at h
      · rw [e]; simp only; omega
    · simp at h
theorem prf_dims {l : List UInt8} (h : prfE l = 0) : (prfT l).1 ≤ 255 := by
  unfold prfE at h
  unfold prfT
  split at h
  · simp at h
  · rename_i h1
    rw [if_neg h1]
    split at h
    · rename_i h2
      rw [if_pos h2]; exact par_dims h
    · rename_i h2
      rw [if_neg h2]
      split <;> simp
theorem rtx_blank {b : Bool} {c n d : List UInt8} (h : rckB c n d = true) : (32 : UInt8) ∉ rtxL b c n d := by
  rw [rtxL, h, if_pos rfl]
  unfold rckB at h
  simp only [Bool.and_eq_true, beq_iff_eq] at h
  obtain ⟨⟨hc, hn⟩, hd⟩ := h
  obtain ⟨r, _, hb⟩ := pd_text hd
  intro m
  rcases List.mem_append.1 m with m | m
  · exact clean_blank (prf_clean hc) m
  · rcases List.mem_cons.1 m with m | m
    · revert m; cases b <;> decide
    · rcases List.mem_append.1 m with m | m
      · exact clean_blank (member_clean hn) m
      · exact hb m
theorem num_case {k : Int} {o : Nat} {p0 : List UInt8} {ps : List (List UInt8)} {j : Ins} {l : List UInt8} (hc : candI k o (p0 :: ps) = some j) (hg : gl (p0 :: ps) = l) (hk : k = 1 ∨ k = 2 ∨ k = 3) (t r : List UInt8) : p0 ++ restL k j.n t r = l := by
  rw [candI, if_neg (by omega), if_pos hk] at hc
  split at hc
  · rename_i hh
    obtain ⟨p1, rfl⟩ : ∃ p1, ps = [p1] := by
      cases ps with
      | nil => simp at hh
      | cons a q => cases q with
        | nil => exact ⟨a, rfl⟩
        | cons b q => simp at hh
    rw [← Option.some.inj hc, restL, if_pos hk]
    have h2 : (numR p1).2 = true := hh.2
    show p0 ++ 32 :: Lib.itoa (numR p1).1 = l
    rw [num_back h2]; exact hg
  · cases hc
theorem typ_case {k : Int} {o : Nat} {p0 : List UInt8} {ps : List (List UInt8)} {j : Ins} {l : List UInt8} (hc : candI k o (p0 :: ps) = some j) (hg : gl (p0 :: ps) = l) (hk : k = 4 ∨ k = 5 ∨ k = 6) (n : Int) (r : List UInt8) : p0 ++ restL k n j.t.data.toList r = l := by
  rw [candI, if_neg (by omega), if_neg (by omega), if_pos hk] at hc
  split at hc
  · rename_i hh
    obtain ⟨p1, rfl⟩ : ∃ p1, ps = [p1] := by
      cases ps with
      | nil => simp at hh
      | cons a q => cases q with
        | nil => exact ⟨a, rfl⟩
        | cons b q => simp at hh
    rw [← Option.some.inj hc, restL, if_neg (by omega), if_pos hk]
    exact hg
  · cases hc
theorem arr_case {o : Nat} {p0 : List UInt8} {ps : List (List UInt8)} {j : Ins} {l : List UInt8} (hc : candI 7 o (p0 :: ps) = some j) (hg : gl (p0 :: ps) = l) (r : List UInt8) : p0 ++ restL 7 j.n j.t.data.toList r = l := by
  rw [candI, if_neg (by omega), if_neg (by omega), if_neg (by omega), if_pos rfl] at hc
  split at hc
  · rename_i hh
    obtain ⟨p1, p2, rfl⟩ : ∃ p1 p2, ps = [p1, p2] := by
      cases ps with
      | nil => simp at hh
      | cons a q => cases q with
        | nil => simp at hh
        | cons b q => cases q with
          | nil => exact ⟨a, b, rfl⟩
          | cons c q => simp at hh
    rw [← Option.some.inj hc]
    have h2 : (numR p1).2 = true := hh.2
    show p0 ++ 32 :: (Lib.itoa (numR p1).1 ++ 32 :: p2) = l
    rw [num_back h2]; exact hg
  · cases hc
theorem ref_case {o : Nat} {p0 : List UInt8} {ps : List (List UInt8)} {j : Ins} {l : List UInt8} (hc : candI 8 o (p0 :: ps) = some j) (hg : gl (p0 :: ps) = l) (n : Int) (t : List UInt8) : p0 ++ restL 8 n t (rtxL j.b j.c.data.toList j.m.data.toList j.d.data.toList) = l := by
  rw [candI, if_neg (by omega), if_neg (by omega), if_neg (by omega), if_neg (by omega)] at hc
  split at hc
  · rename_i hh
    obtain ⟨p1, rfl⟩ : ∃ p1, ps = [p1] := by
      cases ps with
      | nil => simp at hh
      | cons a q => cases q with
        | nil => exact ⟨a, rfl⟩
        | cons b q => simp at hh
    rw [← Option.some.inj hc]
    have h2 : rfOK p1 = true := hh.2
    show p0 ++ 32 :: rtxL (rfB p1) (rfC p1) (rfN p1) (rfD p1) = l
    rw [(ref_write h2).2]; exact hg
  · cases hc

/-- what package code reads: an instruction by its number and the text behind the word -/
def rdI (o : Int) (l : List UInt8) : Ins :=
  if opdI o = 1 ∨ opdI o = 2 ∨ opdI o = 3 then ⟨o, rdN l, ⟨#[]⟩, false, ⟨#[]⟩, ⟨#[]⟩, ⟨#[]⟩⟩
  else if opdI o = 4 ∨ opdI o = 5 ∨ opdI o = 6 then ⟨o, 0, ⟨l.toArray⟩, false, ⟨#[]⟩, ⟨#[]⟩, ⟨#[]⟩⟩
  else if opdI o = 7 then ⟨o, rdN (cutA l), ⟨(cutB l).toArray⟩, false, ⟨#[]⟩, ⟨#[]⟩, ⟨#[]⟩⟩
  else if opdI o = 8 then ⟨o, 0, ⟨#[]⟩, rfOK l && rfB l, if rfOK l then ⟨(rfC l).toArray⟩ else ⟨#[]⟩, if rfOK l then ⟨(rfN l).toArray⟩ else ⟨#[]⟩, if rfOK l then ⟨(rfD l).toArray⟩ else ⟨#[]⟩⟩
  else ⟨o, 0, ⟨#[]⟩, false, ⟨#[]⟩, ⟨#[]⟩, ⟨#[]⟩⟩
def prtI (i : Ins) : List UInt8 := prtL i.op i.n i.t i.b i.c i.m i.d
def ownR (l : List UInt8) : Ins := rdI (opOf (cutA l)) (cutB l)
def ownP (l : List UInt8) : Option Ins := if ickI (ownR l) = 0 ∧ prtI (ownR l) = l then some (ownR l) else none
/-- the document's reading -/
def docP (l : List UInt8) : Option Ins := parI (opdI (opOf ((cutL 32 l).headD []))) (opOf ((cutL 32 l).headD [])) (cutL 32 l)

theorem bytes_none {t : ByteArray} (h : t.toList.isEmpty = true) : t = ⟨#[]⟩ := by
  rw [Lib.toList_data, List.isEmpty_iff] at h
  apply bytes_ext
  rw [h]
theorem noRef_zero {b : Bool} {c m d : ByteArray} (h : noRefB b c m d = true) : b = false ∧ c = ⟨#[]⟩ ∧ m = ⟨#[]⟩ ∧ d = ⟨#[]⟩ := by
  unfold noRefB at h
  simp only [Bool.and_eq_true, Bool.not_eq_true'] at h
  exact ⟨h.1.1.1, bytes_none h.1.1.2, bytes_none h.1.2, bytes_none h.2⟩
theorem ick_ins {i : Ins} (h : ickI i = 0) : insB (opdI i.op) i.n i.t.toList.isEmpty i.t.data.toList (noRefB i.b i.c i.m i.d) (rckB i.c.data.toList i.m.data.toList i.d.data.toList) = true := by
  unfold ickI ickE at h
  split at h
  · assumption
  · exact absurd h (by decide)
theorem back_bytes (t : ByteArray) : (⟨t.data.toList.toArray⟩ : ByteArray) = t := by apply bytes_ext; simp

/-- what a sound instruction is, by its kind -/
theorem sound_shape {i : Ins} (h : ickI i = 0) :
    (opdI i.op = 0 ∧ i = ⟨i.op, 0, ⟨#[]⟩, false, ⟨#[]⟩, ⟨#[]⟩, ⟨#[]⟩⟩) ∨
    ((opdI i.op = 1 ∨ opdI i.op = 2 ∨ opdI i.op = 3) ∧ (-2147483648 ≤ i.n ∧ i.n ≤ 2147483647) ∧ i = ⟨i.op, i.n, ⟨#[]⟩, false, ⟨#[]⟩, ⟨#[]⟩, ⟨#[]⟩⟩) ∨
    ((opdI i.op = 4 ∨ opdI i.op = 5 ∨ opdI i.op = 6) ∧ clean i.t.data.toList ∧ i = ⟨i.op, 0, i.t, false, ⟨#[]⟩, ⟨#[]⟩, ⟨#[]⟩⟩) ∨
    (opdI i.op = 7 ∧ (1 ≤ i.n ∧ i.n ≤ 255) ∧ clean i.t.data.toList ∧ i = ⟨i.op, i.n, i.t, false, ⟨#[]⟩, ⟨#[]⟩, ⟨#[]⟩⟩) ∨
    (opdI i.op = 8 ∧ rckB i.c.data.toList i.m.data.toList i.d.data.toList = true ∧ i = ⟨i.op, 0, ⟨#[]⟩, i.b, i.c, i.m, i.d⟩) := by
  have hi := ick_ins h
  clear h
  obtain ⟨o, n, t, b, c, m, d⟩ := i
  simp only at hi ⊢
  unfold insB at hi
  rcases opd_cases o with e | e | e | e | e | e | e | e | e | e <;> rw [e] at hi ⊢ <;> simp only [Bool.and_eq_true, beq_iff_eq, decide_eq_true_eq, Int.reduceEq, if_true, if_false, Int.reduceNeg] at hi
  · exact absurd hi (by decide)
  · obtain ⟨⟨hz, hn⟩, ht⟩ := hi
    obtain ⟨rfl, rfl, rfl, rfl⟩ := noRef_zero hz
    obtain rfl := bytes_none ht
    subst hn
    exact .inl ⟨rfl, rfl⟩
  · obtain ⟨⟨⟨hz, ht⟩, h1⟩, h2⟩ := hi
    obtain ⟨rfl, rfl, rfl, rfl⟩ := noRef_zero hz
    obtain rfl := bytes_none ht
    exact .inr (.inl ⟨.inl rfl, ⟨h1, h2⟩, rfl⟩)
  · obtain ⟨⟨⟨hz, ht⟩, h1⟩, h2⟩ := hi
    obtain ⟨rfl, rfl, rfl, rfl⟩ := noRef_zero hz
    obtain rfl := bytes_none ht
    exact .inr (.inl ⟨.inr (.inl rfl), ⟨by omega, by omega⟩, rfl⟩)
  · obtain ⟨⟨⟨hz, ht⟩, h1⟩, h2⟩ := hi
    obtain ⟨rfl, rfl, rfl, rfl⟩ := noRef_zero hz
    obtain rfl := bytes_none ht
    exact .inr (.inl ⟨.inr (.inr rfl), ⟨by omega, by omega⟩, rfl⟩)
  · obtain ⟨⟨hz, hn⟩, ht⟩ := hi
    obtain ⟨rfl, rfl, rfl, rfl⟩ := noRef_zero hz
    subst hn
    exact .inr (.inr (.inl ⟨.inl rfl, valid_clean ht, rfl⟩))
  · obtain ⟨⟨hz, hn⟩, ht⟩ := hi
    obtain ⟨rfl, rfl, rfl, rfl⟩ := noRef_zero hz
    subst hn
    exact .inr (.inr (.inl ⟨.inr (.inl rfl), prf_clean ht, rfl⟩))
  · obtain ⟨⟨⟨hz, hn⟩, ht⟩, _⟩ := hi
    obtain ⟨rfl, rfl, rfl, rfl⟩ := noRef_zero hz
    subst hn
    exact .inr (.inr (.inl ⟨.inr (.inr rfl), par_clean ht, rfl⟩))
  · obtain ⟨⟨⟨hz, ht⟩, h1⟩, h2⟩ := hi
    obtain ⟨rfl, rfl, rfl, rfl⟩ := noRef_zero hz
    have h3 := prf_dims ht
    exact .inr (.inr (.inr (.inl ⟨rfl, ⟨h1, by omega⟩, prf_clean ht, rfl⟩)))
  · obtain ⟨⟨hn, ht⟩, hr⟩ := hi
    obtain rfl := bytes_none ht
    subst hn
    exact .inr (.inr (.inr (.inr ⟨rfl, hr, rfl⟩)))

theorem prt_form {i : Ins} (h : ickI i = 0) : prtI i = wordL i.op ++ restL (opdI i.op) i.n i.t.data.toList (rtxL i.b i.c.data.toList i.m.data.toList i.d.data.toList) := by
  unfold prtI prtL; rw [if_pos (show ickE i.op i.n i.t i.b i.c i.m i.d = 0 from h)]
theorem op_nat {i : Ins} (h : ickI i = 0) : ∃ o : Nat, i.op = o ∧ opOf (wordL i.op) = o ∧ (32 : UInt8) ∉ wordL i.op := by
  obtain ⟨h1, h2⟩ := ick_op h
  have := word_op ⟨i.op.toNat, by omega⟩ (by show 1 ≤ i.op.toNat; omega)
  exact ⟨i.op.toNat, by omega, this.1, this.2⟩

theorem own_read {i : Ins} (h : ickI i = 0) : ownR (prtI i) = i := by
  obtain ⟨o, ho, hw, hb⟩ := op_nat h
  rw [prt_form h]
  rcases sound_shape h with ⟨hk, e⟩ | ⟨hk, hn, e⟩ | ⟨hk, hc, e⟩ | ⟨hk, hn, hc, e⟩ | ⟨hk, hr, e⟩
  · have hr0 : ∀ n t r, restL (opdI i.op) n t r = [] := fun n t r => by rw [hk]; rfl
    rw [hr0, List.append_nil, ownR, cutA_free hb, cutB_free hb, hw, ← ho, rdI, hk]
    conv => rhs; rw [e]
    rfl
  · have hr0 : ∀ t r, restL (opdI i.op) i.n t r = 32 :: Lib.itoa i.n := fun t r => by rw [restL, if_pos hk]
    rw [hr0, ownR, cutA_app hb, cutB_app hb, hw, ← ho, rdI, if_pos hk, rdN_itoa i.n hn.1 hn.2]
    exact e.symm
  · have hk' : ¬ (opdI i.op = 1 ∨ opdI i.op = 2 ∨ opdI i.op = 3) := by omega
    have hr0 : ∀ n t r, restL (opdI i.op) n t r = 32 :: t := fun n t r => by rw [restL, if_neg hk', if_pos hk]
    rw [hr0, ownR, cutA_app hb, cutB_app hb, hw, ← ho, rdI, if_neg hk', if_pos hk, back_bytes]
    exact e.symm
  · have hr0 : ∀ n t r, restL (opdI i.op) n t r = 32 :: (Lib.itoa n ++ 32 :: t) := fun n t r => by rw [hk]; rfl
    have hb2 : (32 : UInt8) ∉ Lib.itoa i.n := clean_blank (itoa_clean _)
    rw [hr0, ownR, cutA_app hb, cutB_app hb, hw, ← ho, rdI, if_neg (by omega), if_neg (by omega), if_pos hk, cutA_app hb2, cutB_app hb2, rdN_itoa i.n (by omega) (by omega), back_bytes]
    exact e.symm
  · have hr0 : ∀ n t r, restL (opdI i.op) n t r = 32 :: r := fun n t r => by rw [hk]; rfl
    obtain ⟨h1, h2, h3, h4, h5⟩ := ref_read (b := i.b) hr
    rw [hr0, ownR, cutA_app hb, cutB_app hb, hw, ← ho, rdI, if_neg (by omega), if_neg (by omega), if_neg (by omega), if_pos hk, h1, h2, h3, h4, h5, if_pos rfl, if_pos rfl, if_pos rfl, Bool.true_and, back_bytes, back_bytes, back_bytes]
    exact e.symm

theorem own_back {i : Ins} (h : ickI i = 0) : ownP (prtI i) = some i := by
  rw [ownP, own_read h, if_pos ⟨h, rfl⟩]
theorem own_sound {l : List UInt8} {i : Ins} (h : ownP l = some i) : ickI i = 0 ∧ prtI i = l := by
  unfold ownP at h
  split at h
  · rename_i hh
    obtain rfl := Option.some.inj h
    exact hh
  · cases h

/-- the document reads what is written -/
theorem doc_back {i : Ins} (h : ickI i = 0) : docP (prtI i) = some i := by
  obtain ⟨o, ho, hw, hb⟩ := op_nat h
  have fin : ∀ ps : List (List UInt8), cutL 32 (prtI i) = wordL i.op :: ps → candI (opdI i.op) o (wordL i.op :: ps) = some i → docP (prtI i) = some i := by
    intro ps hps hc
    rw [docP, hps, List.headD_cons, hw, ← ho, parI, ho, ← ho]
    rw [ho] at hc ⊢
    rw [hc]
    simp only
    rw [if_pos h]
  rcases sound_shape h with ⟨hk, e⟩ | ⟨hk, hn, e⟩ | ⟨hk, hc, e⟩ | ⟨hk, hn, hc, e⟩ | ⟨hk, hr, e⟩
  · refine fin [] ?_ ?_
    · rw [prt_form h, hk]; exact (congrArg _ (List.append_nil _)).trans (cutL_free 32 _ hb)
    · rw [candI, if_pos (by omega), if_pos (show [wordL i.op].length = 1 from rfl), ← ho, ← e]
  · refine fin [Lib.itoa i.n] ?_ ?_
    · rw [prt_form h, restL, if_pos hk]; exact cut2 hb (clean_blank (itoa_clean _))
    · have hx : numR (Lib.itoa i.n) = (i.n, true) := num_itoa i.n (by omega) (by omega)
      rw [candI, if_neg (by omega), if_pos hk]
      show (if [wordL i.op, Lib.itoa i.n].length = 2 ∧ (numR (Lib.itoa i.n)).2 = true then some (⟨o, (numR (Lib.itoa i.n)).1, ⟨#[]⟩, false, ⟨#[]⟩, ⟨#[]⟩, ⟨#[]⟩⟩ : Ins) else none) = _
      rw [hx, if_pos ⟨rfl, rfl⟩, ← ho, ← e]
  · refine fin [i.t.data.toList] ?_ ?_
    · rw [prt_form h, restL, if_neg (by omega), if_pos hk]; exact cut2 hb (clean_blank hc)
    · rw [candI, if_neg (by omega), if_neg (by omega), if_pos hk]
      show (if [wordL i.op, i.t.data.toList].length = 2 then some (⟨o, 0, ⟨i.t.data.toList.toArray⟩, false, ⟨#[]⟩, ⟨#[]⟩, ⟨#[]⟩⟩ : Ins) else none) = _
      rw [if_pos (show [wordL i.op, i.t.data.toList].length = 2 from rfl), back_bytes, ← ho, ← e]
  · refine fin [Lib.itoa i.n, i.t.data.toList] ?_ ?_
    · rw [prt_form h, restL, if_neg (by omega), if_neg (by omega), if_pos hk]; exact cut3 hb (clean_blank (itoa_clean _)) (clean_blank hc)
    · have hx : numR (Lib.itoa i.n) = (i.n, true) := num_itoa i.n (by omega) (by omega)
      rw [candI, if_neg (by omega), if_neg (by omega), if_neg (by omega), if_pos hk]
      show (if [wordL i.op, Lib.itoa i.n, i.t.data.toList].length = 3 ∧ (numR (Lib.itoa i.n)).2 = true then some (⟨o, (numR (Lib.itoa i.n)).1, ⟨i.t.data.toList.toArray⟩, false, ⟨#[]⟩, ⟨#[]⟩, ⟨#[]⟩⟩ : Ins) else none) = _
      rw [hx, if_pos ⟨rfl, rfl⟩, back_bytes, ← ho, ← e]
  · obtain ⟨h1, h2, h3, h4, h5⟩ := ref_read (b := i.b) hr
    have hbr : (32 : UInt8) ∉ rtxL i.b i.c.data.toList i.m.data.toList i.d.data.toList := rtx_blank hr
    refine fin [rtxL i.b i.c.data.toList i.m.data.toList i.d.data.toList] ?_ ?_
    · rw [prt_form h, restL, if_neg (by omega), if_neg (by omega), if_neg (by omega), if_pos hk]; exact cut2 hb hbr
    · rw [candI, if_neg (by omega), if_neg (by omega), if_neg (by omega), if_neg (by omega)]
      generalize rtxL i.b i.c.data.toList i.m.data.toList i.d.data.toList = x at *
      show (if [wordL i.op, x].length = 2 ∧ rfOK x = true then some (⟨o, 0, ⟨#[]⟩, rfB x, ⟨(rfC x).toArray⟩, ⟨(rfN x).toArray⟩, ⟨(rfD x).toArray⟩⟩ : Ins) else none) = _
      rw [if_pos ⟨rfl, h1⟩, h2, h3, h4, h5, back_bytes, back_bytes, back_bytes, ← ho, ← e]

/-- what the document reads is written again as it was -/
theorem doc_sound {l : List UInt8} {i : Ins} (h : docP l = some i) : ickI i = 0 ∧ prtI i = l := by
  have hg := gl_cut l
  unfold docP at h
  cases hps : cutL 32 l with
  | nil => exact absurd hps (cutL_ne 32 l)
  | cons p0 ps =>
    rw [hps] at h hg
    rw [List.headD_cons] at h
    unfold parI at h
    cases hc : candI (opdI (opOf p0)) (opOf p0) (p0 :: ps) with
    | none => rw [hc] at h; cases h
    | some j =>
      rw [hc] at h
      simp only at h
      by_cases hj : ickI j = 0
      · rw [if_pos hj] at h
        obtain rfl := Option.some.inj h
        refine ⟨hj, ?_⟩
        rw [prt_form hj]
        have hop : j.op = (opOf p0 : Int) := by
          unfold candI at hc
          split at hc
          · split at hc
            · rw [← Option.some.inj hc]
            · cases hc
          · split at hc
            · split at hc
              · rw [← Option.some.inj hc]
              · cases hc
            · split at hc
              · split at hc
                · rw [← Option.some.inj hc]
                · cases hc
              · split at hc
                · split at hc
                  · rw [← Option.some.inj hc]
                  · cases hc
                · split at hc
                  · rw [← Option.some.inj hc]
                  · cases hc
        have hne : opOf p0 ≠ 0 := by
          have := (ick_op hj).1
          omega
        have hword : wordL j.op = p0 := by
          rw [hop, wordL, Int.toNat_natCast]; exact op_word hne
        rw [hword]
        rw [hop]
        rcases opd_cases (opOf p0) with e | e | e | e | e | e | e | e | e | e
        · have := ick_ins hj
          rw [hop, e] at this
          simp [insB] at this
        · rw [e] at hc ⊢
          have hl : ps = [] := by
            simp only [candI] at hc
            split at hc
            · split at hc
              · rename_i hlen; simpa using hlen
              · cases hc
            · rename_i hq; exact absurd (Or.inr trivial) hq
          subst hl
          rw [← hg]; simp [restL, gl]
        · rw [e] at hc ⊢; exact num_case hc hg (by omega) _ _
        · rw [e] at hc ⊢; exact num_case hc hg (by omega) _ _
        · rw [e] at hc ⊢; exact num_case hc hg (by omega) _ _
        · rw [e] at hc ⊢; exact typ_case hc hg (by omega) _ _
        · rw [e] at hc ⊢; exact typ_case hc hg (by omega) _ _
        · rw [e] at hc ⊢; exact typ_case hc hg (by omega) _ _
        · rw [e] at hc ⊢; exact arr_case hc hg _
        · rw [e] at hc ⊢; exact ref_case hc hg _ _
      · rw [if_neg hj] at h; cases h

theorem own_doc (l : List UInt8) : ownP l = docP l := by
  cases hd : docP l with
  | some i =>
    obtain ⟨h1, h2⟩ := doc_sound hd
    rw [← h2]; exact own_back h1
  | none =>
    cases ho : ownP l with
    | none => rfl
    | some i =>
      obtain ⟨h1, h2⟩ := own_sound ho
      rw [← h2, doc_back h1] at hd
      cases hd
end Go.Proofs.YtijlipllahfakaaDoor

namespace Go.Proofs.YtijlipllahfakaaDoor
open Go.RowKit

set_option maxRecDepth 100000 in
set_option maxHeartbeats 400000 in
theorem slIndex_32 (s : ByteArray) (w : World) : Calls Tryd.prog 67 #[.string s, .string ⟨#[32]⟩] w fun e w' => e = .returned (.int .i64 (Lib.indexByte s.data.toList 32)) ∧ w' = w := by
  have HB : Hid (∀ w : World, Calls Tryd.prog 84 #[.string s, .int .u8 32] w fun e w' => e = .returned (.int .i64 (Lib.indexByte s.data.toList 32)) ∧ w' = w) := fun w => Tryd.stringslite_IndexByte s 32 w
  have HR : Hid (([32] == s.toList) = true → Lib.indexByte s.data.toList 32 = 0) := fun h => by
    have e : s.data.toList = [32] := by rw [← Lib.toList_data]; exact (eq_of_beq h).symm
    rw [e]; rfl
  generalize Lib.indexByte s.data.toList 32 = r at *
  go_enter Tryd.func67, Tryd.ntmps67
  go_wp2_with (go_at_call 84; refine (HB.out _).mono ?_; rintro e w1 ⟨rfl, rfl⟩)
  · rename_i hc
    go_ret
    exact ⟨ret_int (HR.out hc).symm, rfl⟩
  · go_ret
    exact ⟨rfl, rfl⟩

set_option maxRecDepth 100000 in
set_option maxHeartbeats 400000 in
theorem slIndex_40 (s : ByteArray) (w : World) : Calls Tryd.prog 67 #[.string s, .string ⟨#[40]⟩] w fun e w' => e = .returned (.int .i64 (Lib.indexByte s.data.toList 40)) ∧ w' = w := by
  have HB : Hid (∀ w : World, Calls Tryd.prog 84 #[.string s, .int .u8 40] w fun e w' => e = .returned (.int .i64 (Lib.indexByte s.data.toList 40)) ∧ w' = w) := fun w => Tryd.stringslite_IndexByte s 40 w
  have HR : Hid (([40] == s.toList) = true → Lib.indexByte s.data.toList 40 = 0) := fun h => by
    have e : s.data.toList = [40] := by rw [← Lib.toList_data]; exact (eq_of_beq h).symm
    rw [e]; rfl
  generalize Lib.indexByte s.data.toList 40 = r at *
  go_enter Tryd.func67, Tryd.ntmps67
  go_wp2_with (go_at_call 84; refine (HB.out _).mono ?_; rintro e w1 ⟨rfl, rfl⟩)
  · rename_i hc
    go_ret
    exact ⟨ret_int (HR.out hc).symm, rfl⟩
  · go_ret
    exact ⟨rfl, rfl⟩

set_option maxRecDepth 100000 in
set_option maxHeartbeats 400000 in
theorem index_40 (s : ByteArray) (w : World) : Calls Tryd.prog 44 #[.string s, .string ⟨#[40]⟩] w fun e w' => e = .returned (.int .i64 (Lib.indexByte s.data.toList 40)) ∧ w' = w := by
  have HB : Hid (∀ w : World, _) := slIndex_40 s
  generalize Lib.indexByte s.data.toList 40 = r at *
  go_enter Tryd.func44, Tryd.ntmps44
  go_wp2_with (go_at_call 67; refine (HB.out _).mono ?_; rintro e w1 ⟨rfl, rfl⟩)
  go_ret
  exact ⟨rfl, rfl⟩

theorem idx_span (c : UInt8) : ∀ l : List UInt8, Lib.indexByte l c = if spanN (fun x => !decide (x = c)) l < l.length then (spanN (fun x => !decide (x = c)) l : Int) else -1
  | [] => rfl
  | b :: l => by
    have ih := idx_span c l
    by_cases hb : b = c
    · subst hb
      rw [Lib.indexByte]
      simp [spanN]
    · have h1 : (b == c) = false := by simpa using hb
      have h2 : spanN (fun x => !decide (x = c)) (b :: l) = spanN (fun x => !decide (x = c)) l + 1 := by simp [spanN, hb]
      rw [Lib.indexByte, h1, ih, h2, List.length_cons]
      simp only [Bool.false_eq_true, if_false]
      by_cases hl : spanN (fun x => !decide (x = c)) l < l.length
      · have h3 : ((spanN (fun x => !decide (x = c)) l : Int) == -1) = false := by rw [beq_eq_false_iff_ne]; omega
        rw [if_pos hl, h3, if_pos (show spanN (fun x => !decide (x = c)) l + 1 < l.length + 1 by omega)]
        simp
      · rw [if_neg hl, if_pos (show ((-1 : Int) == -1) = true by decide), if_neg (show ¬ spanN (fun x => !decide (x = c)) l + 1 < l.length + 1 by omega)]
theorem any_span : ∀ l : List UInt8, Lib.indexAny l [58, 46] = if markN l < l.length then (markN l : Int) else -1
  | [] => rfl
  | b :: l => by
    have ih := any_span l
    unfold markN at ih ⊢
    cases hb : notMark b with
    | false =>
      have h1 : ([58, 46] : List UInt8).contains b = true := by
        simp only [notMark, Bool.and_eq_false_iff, Bool.not_eq_false', decide_eq_true_eq] at hb
        rcases hb with rfl | rfl <;> rfl
      rw [Lib.indexAny, h1]
      simp [spanN, hb]
    | true =>
      have h1 : ([58, 46] : List UInt8).contains b = false := by
        simp only [notMark, Bool.and_eq_true, Bool.not_eq_true', decide_eq_false_iff_not] at hb
        simp [hb.1, hb.2]
      have h2 : spanN notMark (b :: l) = spanN notMark l + 1 := by simp [spanN, hb]
      rw [Lib.indexAny, h1, ih, h2, List.length_cons]
      simp only [Bool.false_eq_true, if_false]
      by_cases hl : spanN notMark l < l.length
      · have h3 : ((spanN notMark l : Int) == -1) = false := by rw [beq_eq_false_iff_ne]; omega
        rw [if_pos hl, h3, if_pos (show spanN notMark l + 1 < l.length + 1 by omega)]
        simp
      · rw [if_neg hl, if_pos (show ((-1 : Int) == -1) = true by decide), if_neg (show ¬ spanN notMark l + 1 < l.length + 1 by omega)]
theorem span_le (p : UInt8 → Bool) (l : List UInt8) : spanN p l ≤ l.length := by
  unfold spanN
  exact (List.takeWhile_prefix p).length_le

theorem ex_ex (s : ByteArray) (a k : Nat) : (s.extract a s.size).extract 0 k = s.extract a (a + k) := by
  apply bytes_ext
  rw [ex_take, Lib.extract_to_end, ex_mid, show a + k - a = k by omega]
theorem ex_end (s : ByteArray) (a k : Nat) : (s.extract a s.size).extract k (s.extract a s.size).size = s.extract (a + k) s.size := by
  apply bytes_ext
  rw [Lib.extract_to_end, Lib.extract_to_end, Lib.extract_to_end, List.drop_drop]
theorem ex_size (s : ByteArray) (a : Nat) : (s.extract a s.size).size = s.size - a := by
  simp [ByteArray.size_extract]

set_option maxRecDepth 100000 in
set_option maxHeartbeats 4000000 in
theorem prt_yes (s MB : ByteArray) (m k : Nat) (qb : Bool) (hs : s.size ≤ 9223372036854775807) (hm : m < s.size) (hS : s.extract (m + 1) s.size = MB) (hkM : k ≤ MB.size) (e3 : ((s.extract m (m + 1)).toList == [58]) = qb)
    (HIA : ∀ w : World, Calls Tryd.prog 43 #[.string s, .string ⟨#[58, 46]⟩] w fun e w' => e = .returned (.int .i64 ((m : Int))) ∧ Below w.heap.size w w')
    (HIX : ∀ w : World, Calls Tryd.prog 44 #[.string MB, .string ⟨#[40]⟩] w fun e w' => e = .returned (.int .i64 ((k : Int))) ∧ w' = w)
    (HC : ∀ w : World, Calls Tryd.prog 19 #[.agg #[.bool qb, .string (s.extract 0 m), .string (MB.extract 0 k), .string (MB.extract k MB.size)]] w fun e w' => e = .returned (.int .i64 0) ∧ Below w.heap.size w w')
    (w : World) : Calls Tryd.prog 21 #[.string s] w fun e w' => e = .returned (.tuple #[.agg #[.bool qb, .string (s.extract 0 m), .string (MB.extract 0 k), .string (MB.extract k MB.size)], .int .i64 0]) ∧ Below w.heap.size w w' := by
  have HIA : Hid (∀ w : World, _) := HIA
  have HIX : Hid (∀ w : World, _) := HIX
  have HC : Hid (∀ w : World, _) := HC
  go_enter Tryd.func21, Tryd.ntmps21
  go_wp2_with (first
    | (go_at_call 43; refine (HIA.out _).mono ?_; rintro e w1 ⟨rfl, hb1⟩; have hs1 : w.heap.size < w1.heap.size := (by have := hb1.size; simp at this; omega); have hz10 : w1.cell? ⟨w.heap.size, 0, none⟩ = some (.bool false) := (hb1.cell (p := ⟨w.heap.size, 0, none⟩) (by first | (simp; done) | (simp; omega))).trans (by first | assumption | (simp [go_sem, *]; done)); have hf10 : w1.frozen? ⟨w.heap.size, 0, none⟩ = false := (hb1.frozen (p := ⟨w.heap.size, 0, none⟩) (by first | (simp; done) | (simp; omega))).trans (by first | assumption | (simp [go_sem, *]; done)); have hz11 : w1.cell? ⟨w.heap.size, 1, none⟩ = some (.string ⟨#[]⟩) := (hb1.cell (p := ⟨w.heap.size, 1, none⟩) (by first | (simp; done) | (simp; omega))).trans (by first | assumption | (simp [go_sem, *]; done)); have hf11 : w1.frozen? ⟨w.heap.size, 1, none⟩ = false := (hb1.frozen (p := ⟨w.heap.size, 1, none⟩) (by first | (simp; done) | (simp; omega))).trans (by first | assumption | (simp [go_sem, *]; done)); have hz12 : w1.cell? ⟨w.heap.size, 2, none⟩ = some (.string ⟨#[]⟩) := (hb1.cell (p := ⟨w.heap.size, 2, none⟩) (by first | (simp; done) | (simp; omega))).trans (by first | assumption | (simp [go_sem, *]; done)); have hf12 : w1.frozen? ⟨w.heap.size, 2, none⟩ = false := (hb1.frozen (p := ⟨w.heap.size, 2, none⟩) (by first | (simp; done) | (simp; omega))).trans (by first | assumption | (simp [go_sem, *]; done)); have hz13 : w1.cell? ⟨w.heap.size, 3, none⟩ = some (.string ⟨#[]⟩) := (hb1.cell (p := ⟨w.heap.size, 3, none⟩) (by first | (simp; done) | (simp; omega))).trans (by first | assumption | (simp [go_sem, *]; done)); have hf13 : w1.frozen? ⟨w.heap.size, 3, none⟩ = false := (hb1.frozen (p := ⟨w.heap.size, 3, none⟩) (by first | (simp; done) | (simp; omega))).trans (by first | assumption | (simp [go_sem, *]; done)); have hB1 : Hid (Below w.heap.size w w1) := Below.step ((Below.refl _ _).alloc (Nat.le_refl _) _) hb1; clear hb1 HIA)
    | (go_at_call 44; refine (HIX.out _).mono ?_; rintro e w2 ⟨rfl, hw2⟩; rw [hw2]; clear hw2 HIX))
  go_region
  go_wp2_with (go_at_call 19; refine (HC.out _).mono ?_; rintro e w3 ⟨rfl, hb3⟩; have hs3 : w.heap.size < w3.heap.size := (by have := hb3.size; simp at this; omega); have hr0 : w3.cell? ⟨w1.heap.size, 0, none⟩ = some (.bool qb) := (hb3.cell (p := ⟨w1.heap.size, 0, none⟩) (by simp)).trans (by simp [go_sem, *]); have hr1 : w3.cell? ⟨w1.heap.size, 1, none⟩ = some (.string (s.extract 0 m)) := (hb3.cell (p := ⟨w1.heap.size, 1, none⟩) (by simp)).trans (by simp [go_sem, *]); have hr2 : w3.cell? ⟨w1.heap.size, 2, none⟩ = some (.string (MB.extract 0 k)) := (hb3.cell (p := ⟨w1.heap.size, 2, none⟩) (by simp)).trans (by simp [go_sem, *]); have hr3 : w3.cell? ⟨w1.heap.size, 3, none⟩ = some (.string (MB.extract k MB.size)) := (hb3.cell (p := ⟨w1.heap.size, 3, none⟩) (by simp)).trans (by simp [go_sem, *]); have hz30 : w3.cell? ⟨w.heap.size, 0, none⟩ = some (.bool false) := (hb3.cell (p := ⟨w.heap.size, 0, none⟩) (by first | (simp; done) | (simp; omega))).trans (by first | assumption | (simp [go_sem, *]; done)); have hf30 : w3.frozen? ⟨w.heap.size, 0, none⟩ = false := (hb3.frozen (p := ⟨w.heap.size, 0, none⟩) (by first | (simp; done) | (simp; omega))).trans (by first | assumption | (simp [go_sem, *]; done)); have hz31 : w3.cell? ⟨w.heap.size, 1, none⟩ = some (.string ⟨#[]⟩) := (hb3.cell (p := ⟨w.heap.size, 1, none⟩) (by first | (simp; done) | (simp; omega))).trans (by first | assumption | (simp [go_sem, *]; done)); have hf31 : w3.frozen? ⟨w.heap.size, 1, none⟩ = false := (hb3.frozen (p := ⟨w.heap.size, 1, none⟩) (by first | (simp; done) | (simp; omega))).trans (by first | assumption | (simp [go_sem, *]; done)); have hz32 : w3.cell? ⟨w.heap.size, 2, none⟩ = some (.string ⟨#[]⟩) := (hb3.cell (p := ⟨w.heap.size, 2, none⟩) (by first | (simp; done) | (simp; omega))).trans (by first | assumption | (simp [go_sem, *]; done)); have hf32 : w3.frozen? ⟨w.heap.size, 2, none⟩ = false := (hb3.frozen (p := ⟨w.heap.size, 2, none⟩) (by first | (simp; done) | (simp; omega))).trans (by first | assumption | (simp [go_sem, *]; done)); have hz33 : w3.cell? ⟨w.heap.size, 3, none⟩ = some (.string ⟨#[]⟩) := (hb3.cell (p := ⟨w.heap.size, 3, none⟩) (by first | (simp; done) | (simp; omega))).trans (by first | assumption | (simp [go_sem, *]; done)); have hf33 : w3.frozen? ⟨w.heap.size, 3, none⟩ = false := (hb3.frozen (p := ⟨w.heap.size, 3, none⟩) (by first | (simp; done) | (simp; omega))).trans (by first | assumption | (simp [go_sem, *]; done)); have hB3 : Hid (Below w.heap.size w w3) := Below.step ((hB1.out.alloc (Nat.le_of_lt hs1) _).drew) hb3; clear hb3)
  refine bodyPost_ret (v := .tuple #[.agg #[.bool qb, .string (s.extract 0 m), .string (MB.extract 0 k), .string (MB.extract k MB.size)], .int .i64 0]) (by simp [results, Tryd.results21, go_sem, *]) rfl ⟨rfl, ?_⟩
  exact (((hB3.out.setCell (Nat.le_refl _) _).setCell (Nat.le_refl _) _).setCell (Nat.le_refl _) _).setCell (Nat.le_refl _) _

set_option maxRecDepth 100000 in
set_option maxHeartbeats 4000000 in
theorem prt_bad (s MB : ByteArray) (m k : Nat) (qb : Bool) (hs : s.size ≤ 9223372036854775807) (hm : m < s.size) (hS : s.extract (m + 1) s.size = MB) (hkM : k ≤ MB.size) (e3 : ((s.extract m (m + 1)).toList == [58]) = qb)
    (HIA : ∀ w : World, Calls Tryd.prog 43 #[.string s, .string ⟨#[58, 46]⟩] w fun e w' => e = .returned (.int .i64 ((m : Int))) ∧ Below w.heap.size w w')
    (HIX : ∀ w : World, Calls Tryd.prog 44 #[.string MB, .string ⟨#[40]⟩] w fun e w' => e = .returned (.int .i64 ((k : Int))) ∧ w' = w)
    (HC : ∀ w : World, Calls Tryd.prog 19 #[.agg #[.bool qb, .string (s.extract 0 m), .string (MB.extract 0 k), .string (MB.extract k MB.size)]] w fun e w' => e = .returned (.int .i64 1) ∧ Below w.heap.size w w')
    (w : World) : Calls Tryd.prog 21 #[.string s] w fun e w' => e = .returned (.tuple #[.agg #[.bool false, .string ⟨#[]⟩, .string ⟨#[]⟩, .string ⟨#[]⟩], .int .i64 4]) ∧ Below w.heap.size w w' := by
  have HIA : Hid (∀ w : World, _) := HIA
  have HIX : Hid (∀ w : World, _) := HIX
  have HC : Hid (∀ w : World, _) := HC
  go_enter Tryd.func21, Tryd.ntmps21
  go_wp2_with (first
    | (go_at_call 43; refine (HIA.out _).mono ?_; rintro e w1 ⟨rfl, hb1⟩; have hs1 : w.heap.size < w1.heap.size := (by have := hb1.size; simp at this; omega); have hz10 : w1.cell? ⟨w.heap.size, 0, none⟩ = some (.bool false) := (hb1.cell (p := ⟨w.heap.size, 0, none⟩) (by first | (simp; done) | (simp; omega))).trans (by first | assumption | (simp [go_sem, *]; done)); have hf10 : w1.frozen? ⟨w.heap.size, 0, none⟩ = false := (hb1.frozen (p := ⟨w.heap.size, 0, none⟩) (by first | (simp; done) | (simp; omega))).trans (by first | assumption | (simp [go_sem, *]; done)); have hz11 : w1.cell? ⟨w.heap.size, 1, none⟩ = some (.string ⟨#[]⟩) := (hb1.cell (p := ⟨w.heap.size, 1, none⟩) (by first | (simp; done) | (simp; omega))).trans (by first | assumption | (simp [go_sem, *]; done)); have hf11 : w1.frozen? ⟨w.heap.size, 1, none⟩ = false := (hb1.frozen (p := ⟨w.heap.size, 1, none⟩) (by first | (simp; done) | (simp; omega))).trans (by first | assumption | (simp [go_sem, *]; done)); have hz12 : w1.cell? ⟨w.heap.size, 2, none⟩ = some (.string ⟨#[]⟩) := (hb1.cell (p := ⟨w.heap.size, 2, none⟩) (by first | (simp; done) | (simp; omega))).trans (by first | assumption | (simp [go_sem, *]; done)); have hf12 : w1.frozen? ⟨w.heap.size, 2, none⟩ = false := (hb1.frozen (p := ⟨w.heap.size, 2, none⟩) (by first | (simp; done) | (simp; omega))).trans (by first | assumption | (simp [go_sem, *]; done)); have hz13 : w1.cell? ⟨w.heap.size, 3, none⟩ = some (.string ⟨#[]⟩) := (hb1.cell (p := ⟨w.heap.size, 3, none⟩) (by first | (simp; done) | (simp; omega))).trans (by first | assumption | (simp [go_sem, *]; done)); have hf13 : w1.frozen? ⟨w.heap.size, 3, none⟩ = false := (hb1.frozen (p := ⟨w.heap.size, 3, none⟩) (by first | (simp; done) | (simp; omega))).trans (by first | assumption | (simp [go_sem, *]; done)); have hB1 : Hid (Below w.heap.size w w1) := Below.step ((Below.refl _ _).alloc (Nat.le_refl _) _) hb1; clear hb1 HIA)
    | (go_at_call 44; refine (HIX.out _).mono ?_; rintro e w2 ⟨rfl, hw2⟩; rw [hw2]; clear hw2 HIX))
  go_region
  go_wp2_with (go_at_call 19; refine (HC.out _).mono ?_; rintro e w3 ⟨rfl, hb3⟩; have hs3 : w.heap.size < w3.heap.size := (by have := hb3.size; simp at this; omega); have hz30 : w3.cell? ⟨w.heap.size, 0, none⟩ = some (.bool false) := (hb3.cell (p := ⟨w.heap.size, 0, none⟩) (by first | (simp; done) | (simp; omega))).trans (by first | assumption | (simp [go_sem, *]; done)); have hf30 : w3.frozen? ⟨w.heap.size, 0, none⟩ = false := (hb3.frozen (p := ⟨w.heap.size, 0, none⟩) (by first | (simp; done) | (simp; omega))).trans (by first | assumption | (simp [go_sem, *]; done)); have hz31 : w3.cell? ⟨w.heap.size, 1, none⟩ = some (.string ⟨#[]⟩) := (hb3.cell (p := ⟨w.heap.size, 1, none⟩) (by first | (simp; done) | (simp; omega))).trans (by first | assumption | (simp [go_sem, *]; done)); have hf31 : w3.frozen? ⟨w.heap.size, 1, none⟩ = false := (hb3.frozen (p := ⟨w.heap.size, 1, none⟩) (by first | (simp; done) | (simp; omega))).trans (by first | assumption | (simp [go_sem, *]; done)); have hz32 : w3.cell? ⟨w.heap.size, 2, none⟩ = some (.string ⟨#[]⟩) := (hb3.cell (p := ⟨w.heap.size, 2, none⟩) (by first | (simp; done) | (simp; omega))).trans (by first | assumption | (simp [go_sem, *]; done)); have hf32 : w3.frozen? ⟨w.heap.size, 2, none⟩ = false := (hb3.frozen (p := ⟨w.heap.size, 2, none⟩) (by first | (simp; done) | (simp; omega))).trans (by first | assumption | (simp [go_sem, *]; done)); have hz33 : w3.cell? ⟨w.heap.size, 3, none⟩ = some (.string ⟨#[]⟩) := (hb3.cell (p := ⟨w.heap.size, 3, none⟩) (by first | (simp; done) | (simp; omega))).trans (by first | assumption | (simp [go_sem, *]; done)); have hf33 : w3.frozen? ⟨w.heap.size, 3, none⟩ = false := (hb3.frozen (p := ⟨w.heap.size, 3, none⟩) (by first | (simp; done) | (simp; omega))).trans (by first | assumption | (simp [go_sem, *]; done)); have hB3 : Hid (Below w.heap.size w w3) := Below.step ((hB1.out.alloc (Nat.le_of_lt hs1) _).drew) hb3; clear hb3)
  refine bodyPost_ret (v := .tuple #[.agg #[.bool false, .string ⟨#[]⟩, .string ⟨#[]⟩, .string ⟨#[]⟩], .int .i64 4]) (by simp [results, Tryd.results21, go_sem, *]) rfl ⟨rfl, ?_⟩
  exact (((hB3.out.setCell (Nat.le_refl _) _).setCell (Nat.le_refl _) _).setCell (Nat.le_refl _) _).setCell (Nat.le_refl _) _

set_option maxRecDepth 100000 in
set_option maxHeartbeats 4000000 in
theorem prt_open (s MB : ByteArray) (m : Nat) (hs : s.size ≤ 9223372036854775807) (hm : m < s.size) (hS : s.extract (m + 1) s.size = MB)
    (HIA : ∀ w : World, Calls Tryd.prog 43 #[.string s, .string ⟨#[58, 46]⟩] w fun e w' => e = .returned (.int .i64 ((m : Int))) ∧ Below w.heap.size w w')
    (HIX : ∀ w : World, Calls Tryd.prog 44 #[.string MB, .string ⟨#[40]⟩] w fun e w' => e = .returned (.int .i64 (-1)) ∧ w' = w)
    (w : World) : Calls Tryd.prog 21 #[.string s] w fun e w' => e = .returned (.tuple #[.agg #[.bool false, .string ⟨#[]⟩, .string ⟨#[]⟩, .string ⟨#[]⟩], .int .i64 4]) ∧ Below w.heap.size w w' := by
  have HIA : Hid (∀ w : World, _) := HIA
  have HIX : Hid (∀ w : World, _) := HIX
  go_enter Tryd.func21, Tryd.ntmps21
  go_wp2_with (first
    | (go_at_call 43; refine (HIA.out _).mono ?_; rintro e w1 ⟨rfl, hb1⟩; have hs1 : w.heap.size < w1.heap.size := (by have := hb1.size; simp at this; omega); have hz10 : w1.cell? ⟨w.heap.size, 0, none⟩ = some (.bool false) := (hb1.cell (p := ⟨w.heap.size, 0, none⟩) (by first | (simp; done) | (simp; omega))).trans (by first | assumption | (simp [go_sem, *]; done)); have hf10 : w1.frozen? ⟨w.heap.size, 0, none⟩ = false := (hb1.frozen (p := ⟨w.heap.size, 0, none⟩) (by first | (simp; done) | (simp; omega))).trans (by first | assumption | (simp [go_sem, *]; done)); have hz11 : w1.cell? ⟨w.heap.size, 1, none⟩ = some (.string ⟨#[]⟩) := (hb1.cell (p := ⟨w.heap.size, 1, none⟩) (by first | (simp; done) | (simp; omega))).trans (by first | assumption | (simp [go_sem, *]; done)); have hf11 : w1.frozen? ⟨w.heap.size, 1, none⟩ = false := (hb1.frozen (p := ⟨w.heap.size, 1, none⟩) (by first | (simp; done) | (simp; omega))).trans (by first | assumption | (simp [go_sem, *]; done)); have hz12 : w1.cell? ⟨w.heap.size, 2, none⟩ = some (.string ⟨#[]⟩) := (hb1.cell (p := ⟨w.heap.size, 2, none⟩) (by first | (simp; done) | (simp; omega))).trans (by first | assumption | (simp [go_sem, *]; done)); have hf12 : w1.frozen? ⟨w.heap.size, 2, none⟩ = false := (hb1.frozen (p := ⟨w.heap.size, 2, none⟩) (by first | (simp; done) | (simp; omega))).trans (by first | assumption | (simp [go_sem, *]; done)); have hz13 : w1.cell? ⟨w.heap.size, 3, none⟩ = some (.string ⟨#[]⟩) := (hb1.cell (p := ⟨w.heap.size, 3, none⟩) (by first | (simp; done) | (simp; omega))).trans (by first | assumption | (simp [go_sem, *]; done)); have hf13 : w1.frozen? ⟨w.heap.size, 3, none⟩ = false := (hb1.frozen (p := ⟨w.heap.size, 3, none⟩) (by first | (simp; done) | (simp; omega))).trans (by first | assumption | (simp [go_sem, *]; done)); have hB1 : Hid (Below w.heap.size w w1) := Below.step ((Below.refl _ _).alloc (Nat.le_refl _) _) hb1; clear hb1 HIA)
    | (go_at_call 44; refine (HIX.out _).mono ?_; rintro e w2 ⟨rfl, hw2⟩; rw [hw2]; clear hw2 HIX))
  refine bodyPost_ret (v := .tuple #[.agg #[.bool false, .string ⟨#[]⟩, .string ⟨#[]⟩, .string ⟨#[]⟩], .int .i64 4]) (by simp [results, Tryd.results21, go_sem, *]) rfl ⟨rfl, ?_⟩
  exact (((hB1.out.setCell (Nat.le_refl _) _).setCell (Nat.le_refl _) _).setCell (Nat.le_refl _) _).setCell (Nat.le_refl _) _

set_option maxRecDepth 100000 in
set_option maxHeartbeats 4000000 in
theorem prt_mark (s : ByteArray)
    (HIA : ∀ w : World, Calls Tryd.prog 43 #[.string s, .string ⟨#[58, 46]⟩] w fun e w' => e = .returned (.int .i64 (-1)) ∧ Below w.heap.size w w')
    (w : World) : Calls Tryd.prog 21 #[.string s] w fun e w' => e = .returned (.tuple #[.agg #[.bool false, .string ⟨#[]⟩, .string ⟨#[]⟩, .string ⟨#[]⟩], .int .i64 4]) ∧ Below w.heap.size w w' := by
  have HIA : Hid (∀ w : World, _) := HIA
  go_enter Tryd.func21, Tryd.ntmps21
  go_wp2_with (go_at_call 43; refine (HIA.out _).mono ?_; rintro e w1 ⟨rfl, hb1⟩; have hs1 : w.heap.size < w1.heap.size := (by have := hb1.size; simp at this; omega); have hz10 : w1.cell? ⟨w.heap.size, 0, none⟩ = some (.bool false) := (hb1.cell (p := ⟨w.heap.size, 0, none⟩) (by first | (simp; done) | (simp; omega))).trans (by first | assumption | (simp [go_sem, *]; done)); have hf10 : w1.frozen? ⟨w.heap.size, 0, none⟩ = false := (hb1.frozen (p := ⟨w.heap.size, 0, none⟩) (by first | (simp; done) | (simp; omega))).trans (by first | assumption | (simp [go_sem, *]; done)); have hz11 : w1.cell? ⟨w.heap.size, 1, none⟩ = some (.string ⟨#[]⟩) := (hb1.cell (p := ⟨w.heap.size, 1, none⟩) (by first | (simp; done) | (simp; omega))).trans (by first | assumption | (simp [go_sem, *]; done)); have hf11 : w1.frozen? ⟨w.heap.size, 1, none⟩ = false := (hb1.frozen (p := ⟨w.heap.size, 1, none⟩) (by first | (simp; done) | (simp; omega))).trans (by first | assumption | (simp [go_sem, *]; done)); have hz12 : w1.cell? ⟨w.heap.size, 2, none⟩ = some (.string ⟨#[]⟩) := (hb1.cell (p := ⟨w.heap.size, 2, none⟩) (by first | (simp; done) | (simp; omega))).trans (by first | assumption | (simp [go_sem, *]; done)); have hf12 : w1.frozen? ⟨w.heap.size, 2, none⟩ = false := (hb1.frozen (p := ⟨w.heap.size, 2, none⟩) (by first | (simp; done) | (simp; omega))).trans (by first | assumption | (simp [go_sem, *]; done)); have hz13 : w1.cell? ⟨w.heap.size, 3, none⟩ = some (.string ⟨#[]⟩) := (hb1.cell (p := ⟨w.heap.size, 3, none⟩) (by first | (simp; done) | (simp; omega))).trans (by first | assumption | (simp [go_sem, *]; done)); have hf13 : w1.frozen? ⟨w.heap.size, 3, none⟩ = false := (hb1.frozen (p := ⟨w.heap.size, 3, none⟩) (by first | (simp; done) | (simp; omega))).trans (by first | assumption | (simp [go_sem, *]; done)); have hB1 : Hid (Below w.heap.size w w1) := Below.step ((Below.refl _ _).alloc (Nat.le_refl _) _) hb1; clear hb1 HIA)
  refine bodyPost_ret (v := .tuple #[.agg #[.bool false, .string ⟨#[]⟩, .string ⟨#[]⟩, .string ⟨#[]⟩], .int .i64 4]) (by simp [results, Tryd.results21, go_sem, *]) rfl ⟨rfl, ?_⟩
  exact (((hB1.out.setCell (Nat.le_refl _) _).setCell (Nat.le_refl _) _).setCell (Nat.le_refl _) _).setCell (Nat.le_refl _) _

theorem parseRefText_of (s : ByteArray) (hs : s.size ≤ maxLen) (HIA : ∀ w : World, Calls Tryd.prog 43 #[.string s, .string ⟨#[58, 46]⟩] w fun e w' => e = .returned (.int .i64 (Lib.indexAny s.data.toList [58, 46])) ∧ Below w.heap.size w w') (w : World) : Calls Tryd.prog 21 #[.string s] w fun e w' => e = .returned (rfOut s.data.toList) ∧ Below w.heap.size w w' := by
  have hlen : s.data.toList.length = s.size := by simp
  have hs2 : s.size ≤ 9223372036854775807 := by unfold maxLen at hs; omega
  rw [any_span, hlen] at HIA
  by_cases hm : markN s.data.toList < s.size
  · rw [if_pos hm] at HIA
    obtain ⟨m, hM⟩ : ∃ m, markN s.data.toList = m := ⟨_, rfl⟩
    rw [hM] at hm HIA
    have HIX0 := index_40 (s.extract (m + 1) s.size)
    have htl : (s.extract (m + 1) s.size).data.toList = s.data.toList.drop (m + 1) := Lib.extract_to_end _ _
    have hsp : (fun x : UInt8 => !decide (x = 40)) = notOpen := rfl
    rw [idx_span, htl, hsp, List.length_drop, hlen] at HIX0
    obtain ⟨x, t, hx⟩ : ∃ x t, s.data.toList.drop m = x :: t := by
      cases e : s.data.toList.drop m with
      | nil => have := List.drop_eq_nil_iff.1 e; omega
      | cons x t => exact ⟨x, t, rfl⟩
    have hxm : notMark x = false := span_stop notMark s.data.toList x t (by rw [show spanN notMark s.data.toList = m from hM]; exact hx)
    have hxc : x = 46 ∨ x = 58 := by
      simp only [notMark, Bool.and_eq_false_iff, Bool.not_eq_false', decide_eq_true_eq] at hxm
      exact hxm
    have hq : rfB s.data.toList = decide (x = 58) := by rw [rfB, hM, hx, Bool.eq_iff_iff]; simp
    have htd : s.data.toList.drop (m + 1) = t := by
      have := congrArg (List.drop 1) hx
      rw [List.drop_drop] at this
      simpa using this
    have hO : openN s.data.toList = m + 1 + spanN notOpen (s.data.toList.drop (m + 1)) := by
      rw [openN, hM, hx, htd]
      have : notOpen x = true := by rcases hxc with rfl | rfl <;> rfl
      simp only [spanN, List.takeWhile_cons, this, if_true, List.length_cons]
      omega
    by_cases hk : spanN notOpen (s.data.toList.drop (m + 1)) < s.size - (m + 1)
    · rw [if_pos hk] at HIX0
      obtain ⟨k, hK⟩ : ∃ k, spanN notOpen (s.data.toList.drop (m + 1)) = k := ⟨_, rfl⟩
      rw [hK] at hk HIX0 hO
      have HC := refCheck_any (decide (x = 58)) (s.extract 0 m) (s.extract (m + 1) (m + 1 + k)) (s.extract (m + 1 + k) s.size) (by simp [ByteArray.size_extract]; omega) (by simp [ByteArray.size_extract]; omega) (by simp [ByteArray.size_extract]; omega)
      have hrk : rckE (s.extract 0 m).data.toList (s.extract (m + 1) (m + 1 + k)).data.toList (s.extract (m + 1 + k) s.size).data.toList = if rfOK s.data.toList then 0 else 1 := by
        rw [rckE, ex_take, ex_mid, Lib.extract_to_end, rfOK, rfC, rfN, rfD, hM, hO, hlen]
        simp [show m + 1 + k < s.size by omega]
      rw [hrk, ← ex_ex s (m + 1) k, ← ex_end s (m + 1) k] at HC
      have e3 : ((s.extract m (m + 1)).toList == [58]) = decide (x = 58) := by
        rw [Lib.toList_data, ex_mid, hx, show m + 1 - m = 1 by omega]
        show ([x] == [58]) = _
        rw [Bool.eq_iff_iff]; simp
      have hkM : k ≤ (s.extract (m + 1) s.size).size := by rw [ex_size s (m + 1)]; omega
      cases hok : rfOK s.data.toList with
      | true =>
        rw [hok, if_pos rfl] at HC
        rw [rfOut_yes s m (m + 1 + k) (decide (x = 58)) hM hO hok hq, ← ex_ex s (m + 1) k, ← ex_end s (m + 1) k]
        exact prt_yes s _ m k _ hs2 hm rfl hkM e3 HIA HIX0 HC w
      | false =>
        rw [hok, if_neg (by decide)] at HC
        rw [rfOut_no hok]
        exact prt_bad s _ m k _ hs2 hm rfl hkM e3 HIA HIX0 HC w
    · rw [if_neg hk] at HIX0
      have hok : rfOK s.data.toList = false := by
        rw [rfOK, hO, hlen, show decide (m + 1 + spanN notOpen (s.data.toList.drop (m + 1)) < s.size) = false by rw [decide_eq_false_iff_not]; omega]; rfl
      rw [rfOut_no hok]
      exact prt_open s _ m hs2 hm rfl HIA HIX0 w
  · rw [if_neg hm] at HIA
    have hok : rfOK s.data.toList = false := by
      rw [rfOK, hlen, show decide (openN s.data.toList < s.size) = false by rw [decide_eq_false_iff_not]; unfold openN; omega]; rfl
    rw [rfOut_no hok]
    exact prt_mark s HIA w

end Go.Proofs.YtijlipllahfakaaDoor

namespace Go.Proofs.YtijlipllahfakaaDoor
open Go.RowKit Go.Lib

set_option maxHeartbeats 4000000 in
set_option maxRecDepth 1000000 in
theorem iAny_long (s : ByteArray) (w : World) (h8 : 8 < s.size) (hs : s.size ≤ 9223372036854775807) :
    Calls Tryd.prog 43 #[.string s, .string ⟨#[58, 46]⟩] w fun e w' => e = .returned (.int .i64 (Lib.indexAny s.data.toList [58, 46])) ∧ Below w.heap.size w w' := by
  have hv : ∀ w, (zeroValue 85).run Tryd.prog w = .ok (.agg (Array.replicate 256 (.bool false))) w := (zero_of_info (n := 256) (by kernel_rfl)).1
  have hM := Tryd.strings_makeASCIISet hv ⟨#[58, 46]⟩ w (by decide) (by intro j b h; have hb : b ∈ ([58, 46] : List UInt8) := List.mem_of_getElem? h; simp at hb; rcases hb with rfl | rfl <;> decide)
  have h8z : decide ((8 : Int) < (s.size : Int)) = true := decide_eq_true (by omega)
  have hi116 : (Tryd.prog.info? 85).map (·.size) = some 256 := by kernel_rfl
  obtain ⟨SC, hSC⟩ : ∃ SC, SC = Lib.setCells [58, 46] := ⟨_, rfl⟩
  have hzc : Tryd.zeroCells85 = Array.replicate 256 (.bool false) := by kernel_rfl
  have hsc : (storeCells ⟨w.heap.size + 1, 0, none⟩ SC.toList 0).run Tryd.prog ((w.alloc (.cells SC 85)).alloc (.cells Tryd.zeroCells85 85)) = .ok () ((w.alloc (.cells SC 85)).alloc (.cells SC 85)) := by
    rw [hzc]
    have := run_storeCells_new (P := Tryd.prog) (w.alloc (.cells SC 85)) 85 (Array.replicate 256 (.bool false)) SC (by rw [hSC, Lib.setCells_size]; exact hi116) (by rw [hSC, Lib.setCells_size, Array.size_replicate]) (by rw [hSC]; exact Lib.setCells_one _)
    simpa using this
  have hsz : SC.size = 256 := by rw [hSC]; exact Lib.setCells_size _
  have HC : Hid (∀ x : UInt8, ((w.alloc (.cells SC 85)).alloc (.cells SC 85)).cell? ⟨w.heap.size + 1, x.toNat, none⟩ = some (.bool (([58, 46] : List UInt8).contains x))) := fun x => by
    rw [World.cell?_alloc_at _ _ _ _ (by simp), hSC, Lib.setCells_at]
  rw [show (⟨#[58, 46]⟩ : ByteArray).data.toList = [58, 46] from rfl, ← hSC] at hM
  have HB : Hid (Below w.heap.size w ((w.alloc (.cells SC 85)).alloc (.cells SC 85))) := ((Below.refl _ _).alloc (Nat.le_refl _) _).alloc (by simp) _
  clear hSC hi116 hzc hv
  go_enter Tryd.func43, Tryd.ntmps43
  go_wp2_with (first
    | (go_at_call 64; refine (Tryd.strings_shouldUseASCIISet _ _).mono ?_; rintro e w' ⟨rfl, hw⟩; rw [hw, h8z])
    | (go_at_call 65; refine hM.mono ?_; rintro e w' ⟨rfl, hw⟩; rw [hw]))
  clear hM hsc
  go_loopg [8] s.size (fun g s8 wx => ∃ i : Nat, i + g = s.size ∧ s8 = .int .i64 i ∧ wx = ((w.alloc (.cells SC 85)).alloc (.cells SC 85)) ∧ Lib.NoAny s.data.toList [58, 46] i)
  case atStart => exact ⟨0, by omega, rfl, rfl, Lib.NoAny.zero _ _⟩
  case round =>
    obtain ⟨i, hig, rfl, rfl, hno⟩ := hrel
    have HN : Hid (Lib.NoAny s.data.toList [58, 46] i) := hno
    clear hno
    cases gk with
    | zero =>
      obtain rfl : i = s.size := by omega
      have hiz : ¬ ((s.size : Int) < (s.size : Int)) := by omega
      go_wp2
      go_ret
      exact ⟨by rw [Lib.indexAny_none (by rw [← Lib.size_eq]; exact HN.out)]; rfl, HB.out⟩
    | succ g =>
      have hi : i < s.size := by omega
      have hiz : (i : Int) < (s.size : Int) := by omega
      obtain ⟨x, hx⟩ : ∃ x : UInt8, s[i]'hi = x := ⟨_, rfl⟩
      have hxl : s.data.toList[i]? = some x := by rw [← hx]; exact Lib.data_getElem? s i hi
      have Hx : Hid (s.data.toList[i]? = some x) := hxl
      clear hxl
      have hcx := HC.out x
      cases hin : ([58, 46] : List UInt8).contains x <;> rw [hin] at hcx
      · have HN2 : Hid (Lib.NoAny s.data.toList [58, 46] (i + 1)) := HN.out.succ Hx.out hin
        clear hin
        go_wp2_with (go_at_call 66; refine (Tryd.asciiSet_contains _ x _ _ hcx).mono ?_; rintro e w' ⟨rfl, hw⟩; rw [hw])
        go_roundg g
        case measure => omega
        case rel => exact ⟨i + 1, by omega, by first | rfl | simp, rfl, HN2.out⟩
      · have HH : Hid (Lib.indexAny s.data.toList [58, 46] = i) := Lib.indexAny_hit HN.out Hx.out hin
        clear hin
        go_wp2_with (go_at_call 66; refine (Tryd.asciiSet_contains _ x _ _ hcx).mono ?_; rintro e w' ⟨rfl, hw⟩; rw [hw])
        go_ret
        exact ⟨by rw [HH.out]; rfl, HB.out⟩

theorem conv_rune (r : Int) (w : World) : (convert 21 9 (.int .i32 r)).run Tryd.prog w = .ok (.string (Utf8.encode r)) w := by
  simp [convert, run_underlying Tryd.underlying21, run_underlying Tryd.underlying9, go_sem, Conv.intToString]

set_option maxHeartbeats 4000000 in
set_option maxRecDepth 1000000 in
theorem iRune_three (r : Int) (x y z : UInt8) (h : 128 ≤ r) (h3 : (r == 65533) = false) (hE : Utf8.encode r = ⟨#[x, y, z]⟩) (HV : ∀ w, Calls Tryd.prog 81 #[.int .i32 r] w fun e w' => e = .returned (.bool true) ∧ w' = w) (w : World) :
    Calls Tryd.prog 63 #[.string ⟨#[58, 46]⟩, .int .i32 r] w fun e w' => e = .returned (.int .i64 (-1)) ∧ Below w.heap.size w w' := by
  have HV : Hid (∀ w : World, _) := HV
  have hcv : ∀ w, (convert 21 9 (.int .i32 r)).run Tryd.prog w = .ok (.string ⟨#[x, y, z]⟩) w := fun w => by rw [conv_rune, hE]
  have h1 : ¬ r < 128 := by omega
  have h2 : 0 ≤ r := by omega
  clear hE
  go_enter Tryd.func63, Tryd.ntmps63
  go_wp2_with (go_at_call 81; refine (HV.out _).mono ?_; rintro e w1 ⟨rfl, hw1⟩; rw [hw1]; clear hw1)
  go_step3
  go_wp2
  go_loopg [9] 1 (fun _ iv wx => iv = .int .i64 2 ∧ wx = w)
  case atStart => exact ⟨rfl, rfl⟩
  case round =>
    obtain ⟨rfl, rfl⟩ := hrel
    go_wp2
    try rw [Exit.noGoto_ret]
    go_ret
    exact ⟨rfl, Below.refl _ _⟩

set_option maxHeartbeats 4000000 in
set_option maxRecDepth 1000000 in
theorem iRune_four (r : Int) (x y z u : UInt8) (h : 128 ≤ r) (h3 : (r == 65533) = false) (hE : Utf8.encode r = ⟨#[x, y, z, u]⟩) (HV : ∀ w, Calls Tryd.prog 81 #[.int .i32 r] w fun e w' => e = .returned (.bool true) ∧ w' = w) (w : World) :
    Calls Tryd.prog 63 #[.string ⟨#[58, 46]⟩, .int .i32 r] w fun e w' => e = .returned (.int .i64 (-1)) ∧ Below w.heap.size w w' := by
  have HV : Hid (∀ w : World, _) := HV
  have hcv : ∀ w, (convert 21 9 (.int .i32 r)).run Tryd.prog w = .ok (.string ⟨#[x, y, z, u]⟩) w := fun w => by rw [conv_rune, hE]
  have h1 : ¬ r < 128 := by omega
  have h2 : 0 ≤ r := by omega
  clear hE
  go_enter Tryd.func63, Tryd.ntmps63
  go_wp2_with (go_at_call 81; refine (HV.out _).mono ?_; rintro e w1 ⟨rfl, hw1⟩; rw [hw1]; clear hw1)
  go_step3
  go_wp2
  go_loopg [9] 1 (fun _ iv wx => iv = .int .i64 3 ∧ wx = w)
  case atStart => exact ⟨rfl, rfl⟩
  case round =>
    obtain ⟨rfl, rfl⟩ := hrel
    go_wp2
    try rw [Exit.noGoto_ret]
    go_ret
    exact ⟨rfl, Below.refl _ _⟩

set_option maxHeartbeats 4000000 in
set_option maxRecDepth 1000000 in
theorem iRune_two (r : Int) (x y : UInt8) (hy : 128 ≤ y.toNat) (h : 128 ≤ r) (h3 : (r == 65533) = false) (hE : Utf8.encode r = ⟨#[x, y]⟩) (HV : ∀ w, Calls Tryd.prog 81 #[.int .i32 r] w fun e w' => e = .returned (.bool true) ∧ w' = w) (w : World) :
    Calls Tryd.prog 63 #[.string ⟨#[58, 46]⟩, .int .i32 r] w fun e w' => e = .returned (.int .i64 (-1)) ∧ Below w.heap.size w w' := by
  have HV : Hid (∀ w : World, _) := HV
  have hcv : ∀ w, (convert 21 9 (.int .i32 r)).run Tryd.prog w = .ok (.string ⟨#[x, y]⟩) w := fun w => by rw [conv_rune, hE]
  have h1 : ¬ r < 128 := by omega
  have h2 : 0 ≤ r := by omega
  have HB : Hid (∀ w, Calls Tryd.prog 80 #[.string ⟨#[]⟩, .int .u8 (y.toNat : Int)] w fun e w' => e = .returned (.int .i64 (-1)) ∧ w' = w) := fun w => Tryd.strings_IndexByte ⟨#[]⟩ (y.toNat : Int) w
  have hyn : ((46 : Int) != (y.toNat : Int)) = true := by rw [bne_iff_ne]; omega
  have hb1 : (⟨#[58, 46]⟩ : ByteArray)[1]'(by decide) = 46 := rfl
  have hb2 : (⟨#[x, y]⟩ : ByteArray)[1]'(by show 1 < 2; decide) = y := rfl
  have hyn2 : ((((⟨#[58, 46]⟩ : ByteArray)[1]'(by decide)).toNat : Int) != (((⟨#[x, y]⟩ : ByteArray)[1]'(by show 1 < 2; decide)).toNat : Int)) = true := hyn
  clear hE hy
  go_enter Tryd.func63, Tryd.ntmps63
  go_wp2_with (go_at_call 81; refine (HV.out _).mono ?_; rintro e w1 ⟨rfl, hw1⟩; rw [hw1]; clear hw1)
  go_step3
  go_wp2
  go_loopg [9] 1 (fun _ iv wx => iv = .int .i64 1 ∧ wx = w)
  case atStart => exact ⟨rfl, rfl⟩
  case round =>
    obtain ⟨rfl, rfl⟩ := hrel
    go_wp2
    go_step3
    go_wp2
    go_region
    go_wp2
    go_region_with (go_at_call 80; refine (HB.out _).mono ?_; rintro e w2 ⟨rfl, hw2⟩; rw [hw2]; clear hw2)
    go_wp2
    all_goals (try rw [Exit.noGoto_ret])
    all_goals go_wp2
    all_goals (try rw [Exit.noGoto_ret])
    all_goals go_ret
    all_goals exact ⟨rfl, ((Below.refl _ _).drew).drew⟩

set_option maxHeartbeats 4000000 in
set_option maxRecDepth 1000000 in
theorem iRune_bad (r : Int) (h : 128 ≤ r) (h3 : (r == 65533) = false) (HV : ∀ w, Calls Tryd.prog 81 #[.int .i32 r] w fun e w' => e = .returned (.bool false) ∧ w' = w) (w : World) :
    Calls Tryd.prog 63 #[.string ⟨#[58, 46]⟩, .int .i32 r] w fun e w' => e = .returned (.int .i64 (-1)) ∧ Below w.heap.size w w' := by
  have HV : Hid (∀ w : World, _) := HV
  have h1 : ¬ r < 128 := by omega
  have h2 : 0 ≤ r := by omega
  go_enter Tryd.func63, Tryd.ntmps63
  go_wp2_with (go_at_call 81; refine (HV.out _).mono ?_; rintro e w1 ⟨rfl, hw1⟩; rw [hw1]; clear hw1)
  all_goals (try rw [Exit.noGoto_ret])
  go_ret
  exact ⟨rfl, Below.refl _ _⟩

set_option maxHeartbeats 4000000 in
set_option maxRecDepth 1000000 in
theorem iRune_err (w : World) :
    Calls Tryd.prog 63 #[.string ⟨#[58, 46]⟩, .int .i32 65533] w fun e w' => e = .returned (.int .i64 (-1)) ∧ Below w.heap.size w w' := by
  go_enter Tryd.func63, Tryd.ntmps63
  go_wp2
  go_loopg [5, 6] 2 (fun g _ _ wx => ∃ i : Nat, i + g = 2 ∧ wx = w.iter ⟨#[58, 46]⟩ i)
  case atStart => exact ⟨0, by omega, rfl⟩
  case round =>
    obtain ⟨i, hig, rfl⟩ := hrel
    cases gk with
    | zero =>
      obtain rfl : i = 2 := by omega
      have hnx : ∀ ty, _ := fun ty => run_next_end (P := Tryd.prog) w ⟨#[58, 46]⟩ 2 ty (by decide)
      go_wp2
      all_goals (try rw [Exit.noGoto_ret])
      go_ret
      exact ⟨rfl, (Below.refl _ _).alloc (Nat.le_refl _) _⟩
    | succ g =>
      have hi : i < (⟨#[58, 46]⟩ : ByteArray).size := by show i < 2; omega
      obtain ⟨x, hx⟩ : ∃ x : UInt8, (⟨#[58, 46]⟩ : ByteArray)[i]'hi = x := ⟨_, rfl⟩
      have hxn : x.toNat < 128 := by
        have h01 : i = 0 ∨ i = 1 := by omega
        rcases h01 with rfl | rfl
        · rw [← hx]; show (58 : UInt8).toNat < 128; decide
        · rw [← hx]; show (46 : UInt8).toNat < 128; decide
      have hnx := fun ty => run_next_ascii (P := Tryd.prog) w ⟨#[58, 46]⟩ i ty hi (by rw [hx]; exact hxn)
      rw [hx] at hnx
      have hne : ((x.toNat : Int) == 65533) = false := by rw [beq_eq_false_iff_ne]; omega
      clear hx
      go_wp2
      go_roundg g
      case measure => omega
      case rel => exact ⟨i + 1, by omega, rfl⟩

/-- strings.IndexRune at the two marks and a rune beyond ASCII: there is none -/
theorem iRune_high (r : Int) (h : 128 ≤ r) (hr : r ≤ 1114111) (w : World) :
    Calls Tryd.prog 63 #[.string ⟨#[58, 46]⟩, .int .i32 r] w fun e w' => e = .returned (.int .i64 (-1)) ∧ Below w.heap.size w w' := by
  by_cases he : r = 65533
  · subst he; exact iRune_err w
  · have h3 : (r == 65533) = false := by rw [beq_eq_false_iff_ne]; exact he
    have HV := Tryd.utf8_ValidRune r
    cases hv : Lib.validRune r with
    | false => rw [hv] at HV; exact iRune_bad r h h3 HV w
    | true =>
      rw [hv] at HV
      have hval : Utf8.valid r = true := by
        simp only [Lib.validRune, decide_eq_true_eq] at hv
        simp only [Utf8.valid, Bool.or_eq_true, Bool.and_eq_true, decide_eq_true_eq]
        omega
      have hc : (if Utf8.valid r then r.toNat else Utf8.runeError) = r.toNat := by rw [hval]; rfl
      have hE : Utf8.encode r = if r.toNat < 0x80 then ⟨#[UInt8.ofNat r.toNat]⟩
          else if r.toNat < 0x800 then ⟨#[UInt8.ofNat (0xC0 + r.toNat / 64), UInt8.ofNat (0x80 + r.toNat % 64)]⟩
          else if r.toNat < 0x10000 then ⟨#[UInt8.ofNat (0xE0 + r.toNat / 4096), UInt8.ofNat (0x80 + r.toNat / 64 % 64), UInt8.ofNat (0x80 + r.toNat % 64)]⟩
          else ⟨#[UInt8.ofNat (0xF0 + r.toNat / 262144), UInt8.ofNat (0x80 + r.toNat / 4096 % 64), UInt8.ofNat (0x80 + r.toNat / 64 % 64), UInt8.ofNat (0x80 + r.toNat % 64)]⟩ := by
        unfold Utf8.encode
        simp only [hc]
      rw [if_neg (by omega)] at hE
      by_cases h1 : r.toNat < 0x800
      · rw [if_pos h1] at hE
        refine iRune_two r _ _ ?_ h h3 hE HV w
        rw [UInt8.toNat_ofNat']
        omega
      · rw [if_neg h1] at hE
        by_cases h2 : r.toNat < 0x10000
        · rw [if_pos h2] at hE
          exact iRune_three r _ _ _ h h3 hE HV w
        · rw [if_neg h2] at hE
          exact iRune_four r _ _ _ _ h h3 hE HV w

/-- the bytes of a rune beyond ASCII are beyond ASCII -/
theorem decode_bytes (s : ByteArray) (pos : Nat) (hp : pos < s.size) (ha : 128 ≤ (s[pos]'hp).toNat) :
    (Utf8.decode s pos).1 ≤ 1114111 ∧ pos + (Utf8.decode s pos).2 ≤ s.size ∧ ∀ j, j < (Utf8.decode s pos).2 → 128 ≤ (s.get! (pos + j)).toNat := by
  have h0 : s.get! (pos + 0) = s[pos]'hp := by simp [ByteArray.get!, ByteArray.getElem_eq_getElem_data, getElem!_pos, hp]
  have hc : ∀ k, (decide (pos + k < s.size) && ((s.get! (pos + k)).toNat / 64 == 2)) = true → pos + k < s.size ∧ 128 ≤ (s.get! (pos + k)).toNat := fun k h => by
    simp only [Bool.and_eq_true, decide_eq_true_eq, beq_iff_eq] at h
    omega
  have hb : (s.get! (pos + 0)).toNat < 256 := UInt8.toNat_lt _
  rw [← h0] at ha
  have one : ∀ j, j < 1 → 128 ≤ (s.get! (pos + j)).toNat := fun j hj => by
    have : j = 0 := by omega
    subst this; exact ha
  unfold Utf8.decode
  simp only
  rw [if_neg (by omega)]
  split
  · rename_i h1
    rw [Bool.and_eq_true] at h1
    obtain ⟨k1, k2⟩ := hc 1 h1.2
    split
    · refine ⟨?_, by omega, fun j hj => ?_⟩
      · have := UInt8.toNat_lt (s.get! (pos + 1)); simp only; omega
      · have : j = 0 ∨ j = 1 := by simp only at hj; omega
        rcases this with rfl | rfl
        · exact ha
        · exact k2
    · exact ⟨by show Utf8.runeError ≤ _; decide, by omega, one⟩
  · split
    · rename_i h1
      simp only [Bool.and_eq_true] at h1
      obtain ⟨k1, k2⟩ := hc 1 (by simpa using h1.1.2)
      obtain ⟨l1, l2⟩ := hc 2 (by simpa using h1.2)
      split
      · refine ⟨?_, by omega, fun j hj => ?_⟩
        · simp only; omega
        · have : j = 0 ∨ j = 1 ∨ j = 2 := by simp only at hj; omega
          rcases this with rfl | rfl | rfl
          · exact ha
          · exact k2
          · exact l2
      · exact ⟨by show Utf8.runeError ≤ _; decide, by omega, one⟩
    · split
      · rename_i h1
        simp only [Bool.and_eq_true] at h1
        obtain ⟨k1, k2⟩ := hc 1 (by simpa using h1.1.1.2)
        obtain ⟨l1, l2⟩ := hc 2 (by simpa using h1.1.2)
        obtain ⟨m1, m2⟩ := hc 3 (by simpa using h1.2)
        split
        · rename_i hv
          refine ⟨?_, by omega, fun j hj => ?_⟩
          · simp only [Bool.and_eq_true, Utf8.valid, Bool.or_eq_true, decide_eq_true_eq] at hv
            simp only; omega
          · have : j = 0 ∨ j = 1 ∨ j = 2 ∨ j = 3 := by simp only at hj; omega
            rcases this with rfl | rfl | rfl | rfl
            · exact ha
            · exact k2
            · exact l2
            · exact m2
        · exact ⟨by show Utf8.runeError ≤ _; decide, by omega, one⟩
      · exact ⟨by show Utf8.runeError ≤ _; decide, by omega, one⟩

theorem get_at (s : ByteArray) (j : Nat) (b : UInt8) (h : s.data.toList[j]? = some b) : s.get! j = b := by
  obtain ⟨h1, h2⟩ := List.getElem?_eq_some_iff.1 h
  have hj : j < s.size := by simpa using h1
  have : s.get! j = s[j]'hj := by simp [ByteArray.get!, ByteArray.getElem_eq_getElem_data, getElem!_pos, hj]
  rw [this, ← h2]
  simp [ByteArray.getElem_eq_getElem_data]

set_option maxHeartbeats 4000000 in
set_option maxRecDepth 1000000 in
theorem iAny_short (s : ByteArray) (h8 : s.size ≤ 8) (w : World) :
    Calls Tryd.prog 43 #[.string s, .string ⟨#[58, 46]⟩] w fun e w' => e = .returned (.int .i64 (Lib.indexAny s.data.toList [58, 46])) ∧ Below w.heap.size w w' := by
  have h8z : decide ((8 : Int) < (s.size : Int)) = false := decide_eq_false (by omega)
  have hlen : s.data.toList.length = s.size := by simp
  go_enter Tryd.func43, Tryd.ntmps43
  go_wp2_with (go_at_call 64; refine (Tryd.strings_shouldUseASCIISet _ _).mono ?_; rintro e w' ⟨rfl, hw⟩; rw [hw, h8z]; clear hw)
  go_loopg [9, 10] s.size (fun g _ _ wx => ∃ i : Nat, s.size ≤ i + g ∧ i ≤ s.size ∧ Hid (wx.heap[w.heap.size]? = some (.stringIter s i)) ∧ Hid (Below w.heap.size w wx) ∧ Hid (Lib.NoAny s.data.toList [58, 46] i))
  case atStart => exact ⟨0, by omega, by omega, World.iter_heap w s 0, (Below.refl _ _).alloc (Nat.le_refl _) _, Lib.NoAny.zero _ _⟩
  case round =>
    obtain ⟨i, hig, his, hit, hbw, HN⟩ := hrel
    by_cases hp : i < s.size
    · obtain ⟨g, rfl⟩ : ∃ g, gk = g + 1 := ⟨gk - 1, by omega⟩
      have hnx : ∀ ty, (Instr.next (.pointer (some ⟨w.heap.size, 0, none⟩)) true ty).run Tryd.prog wr = _ := fun ty => Lib.run_next_any_at wr w.heap.size s i ty hit.out hp
      have hit2 : Hid ((wr.iterAt w.heap.size s (i + (Utf8.decode s i).2)).heap[w.heap.size]? = some (.stringIter s (i + (Utf8.decode s i).2))) := Lib.iterAt_heap wr w.heap.size s i (i + (Utf8.decode s i).2) hit.out
      have hbw2 : Hid (Below w.heap.size w (wr.iterAt w.heap.size s (i + (Utf8.decode s i).2))) := Lib.below_iterAt hbw.out (k := w.heap.size) (by omega) s (i + (Utf8.decode s i).2)
      have hsz2 : Hid (w.heap.size < (wr.iterAt w.heap.size s (i + (Utf8.decode s i).2)).heap.size) := by
        rw [Hid, Lib.iterAt_size]
        exact (Array.getElem?_eq_some_iff.1 hit.out).1
      by_cases ha : (s[i]'hp).toNat < 128
      · have hd : Utf8.decode s i = ((s[i]'hp).toNat, 1) := decode_ascii s i hp ha
        rw [hd] at hnx hit2 hbw2 hsz2
        obtain ⟨x, hx⟩ : ∃ x : UInt8, s[i]'hp = x := ⟨_, rfl⟩
        have hxl : s.data.toList[i]? = some x := by rw [← hx]; exact Lib.data_getElem? s i hp
        simp only [hx] at hnx ha
        have HR : Hid (∀ w, Calls Tryd.prog 63 #[.string ⟨#[58, 46]⟩, .int .i32 (x.toNat : Int)] w fun e w' => e = .returned (.int .i64 (Lib.indexByte [58, 46] x)) ∧ w' = w) := fun w => by
          have := Tryd.strings_IndexRune_ascii ⟨#[58, 46]⟩ (x.toNat : Int) w (by omega) (by omega)
          rw [show ((x.toNat : Int)).toNat.toUInt8 = x by simp] at this
          exact this
        have hcon : decide ((0 : Int) ≤ Lib.indexByte [58, 46] x) = ([58, 46] : List UInt8).contains x := (Lib.contains_iff_indexByte [58, 46] x).symm
        generalize Lib.indexByte [58, 46] x = ix at *
        cases hin : ([58, 46] : List UInt8).contains x
        · rw [hin] at hcon
          have hlt : ¬ ((0 : Int) ≤ ix) := of_decide_eq_false hcon
          have HN2 : Hid (Lib.NoAny s.data.toList [58, 46] (i + 1)) := HN.out.succ hxl hin
          clear hcon hin hxl HN hd hx hit hbw
          go_wp2_with (go_at_call 63; refine (HR.out _).mono ?_; rintro e w' ⟨rfl, hw⟩; rw [hw]; clear hw)
          go_roundg g
          case measure => omega
          case rel => exact ⟨i + 1, by omega, by omega, hit2, hbw2, HN2⟩
        · rw [hin] at hcon
          have hge : (0 : Int) ≤ ix := of_decide_eq_true hcon
          have HH : Hid (Lib.indexAny s.data.toList [58, 46] = i) := Lib.indexAny_hit HN.out hxl hin
          clear hcon hin hxl HN hd hx hit hbw
          go_wp2_with (go_at_call 63; refine (HR.out _).mono ?_; rintro e w' ⟨rfl, hw⟩; rw [hw]; clear hw)
          go_ret
          exact ⟨by rw [HH.out]; rfl, hbw2.out⟩
      · obtain ⟨d1, d2, d3⟩ := decode_bytes s i hp (by omega)
        obtain ⟨d4, d5⟩ := decode_high s i hp (by omega)
        obtain ⟨rn, hrn⟩ : ∃ rn : Int, rn = ((Utf8.decode s i).1 : Int) := ⟨_, rfl⟩
        have HR : Hid (∀ w, _) := iRune_high rn (by omega) (by omega)
        have HN2 : Hid (Lib.NoAny s.data.toList [58, 46] (i + (Utf8.decode s i).2)) := fun j b hj hb => by
          by_cases hji : j < i
          · exact HN.out j b hji hb
          · have h3 := d3 (j - i) (by omega)
            rw [show i + (j - i) = j by omega, get_at s j b hb] at h3
            have : b ≠ 58 ∧ b ≠ 46 := ⟨fun e => by rw [e] at h3; exact absurd h3 (by decide), fun e => by rw [e] at h3; exact absurd h3 (by decide)⟩
            simp [this.1, this.2]
        rw [← hrn] at hnx
        generalize (Utf8.decode s i).2 = wd at *
        clear hrn d1 d3 d4 HN hit hbw ha
        go_wp2_with (go_at_call 63; refine (HR.out _).mono ?_; rintro e w2 ⟨rfl, hb2⟩; have hb3 : Hid (Below w.heap.size w w2) := hbw2.out.trans (hb2.mono (Nat.le_of_lt hsz2.out)); have hit3 : Hid (w2.heap[w.heap.size]? = some (.stringIter s (i + wd))) := (hb2.block _ hsz2.out).trans hit2.out; clear hb2)
        go_roundg g
        case measure => omega
        case rel => exact ⟨i + wd, by omega, by omega, hit3, hb3, HN2⟩
    · obtain rfl : i = s.size := by omega
      have hnx : ∀ ty, (Instr.next (.pointer (some ⟨w.heap.size, 0, none⟩)) true ty).run Tryd.prog wr = _ := fun ty => Lib.run_next_end_at wr w.heap.size s s.size ty hit.out hp
      have HH : Hid (Lib.indexAny s.data.toList [58, 46] = -1) := Lib.indexAny_none (by rw [hlen]; exact HN.out)
      clear HN hit
      go_wp2
      go_ret
      exact ⟨by rw [HH.out]; rfl, hbw.out⟩

/-- strings.IndexAny at the two marks -/
theorem iAny_any (s : ByteArray) (hs : s.size ≤ maxLen) (w : World) :
    Calls Tryd.prog 43 #[.string s, .string ⟨#[58, 46]⟩] w fun e w' => e = .returned (.int .i64 (Lib.indexAny s.data.toList [58, 46])) ∧ Below w.heap.size w w' := by
  by_cases h8 : s.size ≤ 8
  · exact iAny_short s h8 w
  · exact iAny_long s w (by omega) (by unfold maxLen at hs; omega)
theorem parseRefText_any (s : ByteArray) (hs : s.size ≤ maxLen) (w : World) : Calls Tryd.prog 21 #[.string s] w fun e w' => e = .returned (rfOut s.data.toList) ∧ Below w.heap.size w w' :=
  parseRefText_of s hs (iAny_any s hs) w
end Go.Proofs.YtijlipllahfakaaDoor

namespace Go.Proofs.YtijlipllahfakaaDoor
open Go.RowKit

set_option maxRecDepth 100000 in
set_option maxHeartbeats 1000000 in
theorem cut_yes (s : ByteArray) (k : Nat) (hs : s.size ≤ 9223372036854775807) (hk : k < s.size) (HI : ∀ w : World, Calls Tryd.prog 67 #[.string s, .string ⟨#[32]⟩] w fun e w' => e = .returned (.int .i64 (k : Int)) ∧ w' = w) (w : World) :
    Calls Tryd.prog 68 #[.string s, .string ⟨#[32]⟩] w fun e w' => e = .returned (.tuple #[.string (s.extract 0 k), .string (s.extract (k + 1) s.size), .bool true]) ∧ Below w.heap.size w w' := by
  have HI : Hid (∀ w : World, _) := HI
  go_enter Tryd.func68, Tryd.ntmps68
  go_wp2_with (go_at_call 67; refine (HI.out _).mono ?_; rintro e w1 ⟨rfl, hw1⟩; rw [hw1]; clear hw1 HI)
  go_region
  all_goals go_wp2
  all_goals exact bodyPost_ret (v := .tuple #[.string (s.extract 0 k), .string (s.extract (k + 1) s.size), .bool true]) (by simp [results, Tryd.results68, go_sem, *]) rfl ⟨rfl, (Below.refl _ _).drew⟩

set_option maxRecDepth 100000 in
set_option maxHeartbeats 1000000 in
theorem cut_no (s : ByteArray) (HI : ∀ w : World, Calls Tryd.prog 67 #[.string s, .string ⟨#[32]⟩] w fun e w' => e = .returned (.int .i64 (-1)) ∧ w' = w) (w : World) :
    Calls Tryd.prog 68 #[.string s, .string ⟨#[32]⟩] w fun e w' => e = .returned (.tuple #[.string s, .string ⟨#[]⟩, .bool false]) ∧ Below w.heap.size w w' := by
  have HI : Hid (∀ w : World, _) := HI
  go_enter Tryd.func68, Tryd.ntmps68
  go_wp2_with (go_at_call 67; refine (HI.out _).mono ?_; rintro e w1 ⟨rfl, hw1⟩; rw [hw1]; clear hw1 HI)
  exact bodyPost_ret (v := .tuple #[.string s, .string ⟨#[]⟩, .bool false]) (by simp [results, Tryd.results68, go_sem, *]) rfl ⟨rfl, Below.refl _ _⟩

theorem slCut_any (s : ByteArray) (hs : s.size ≤ maxLen) : ∃ q : Bool, ∀ w : World, Calls Tryd.prog 68 #[.string s, .string ⟨#[32]⟩] w fun e w' => e = .returned (.tuple #[.string ⟨(cutA s.data.toList).toArray⟩, .string ⟨(cutB s.data.toList).toArray⟩, .bool q]) ∧ Below w.heap.size w w' := by
  have hlen : s.data.toList.length = s.size := by simp
  have HI := slIndex_32 s
  have hsp : (fun x : UInt8 => !decide (x = 32)) = notBl := rfl
  rw [idx_span, hsp, hlen] at HI
  by_cases hk : blankN s.data.toList < s.size
  · have hk' : spanN notBl s.data.toList < s.size := hk
    rw [if_pos hk'] at HI
    refine ⟨true, fun w => ?_⟩
    have e1 : (⟨(cutA s.data.toList).toArray⟩ : ByteArray) = s.extract 0 (blankN s.data.toList) := by apply bytes_ext; rw [ex_take, cutA]
    have e2 : (⟨(cutB s.data.toList).toArray⟩ : ByteArray) = s.extract (blankN s.data.toList + 1) s.size := by apply bytes_ext; rw [Lib.extract_to_end, cutB]
    rw [e1, e2]
    exact cut_yes s (blankN s.data.toList) (by unfold maxLen at hs; omega) hk HI w
  · have hk' : ¬ spanN notBl s.data.toList < s.size := hk
    rw [if_neg hk'] at HI
    refine ⟨false, fun w => ?_⟩
    have hle : s.data.toList.length ≤ blankN s.data.toList := by rw [hlen]; exact Nat.le_of_not_lt hk
    have e1 : (⟨(cutA s.data.toList).toArray⟩ : ByteArray) = s := by apply bytes_ext; rw [cutA, List.take_of_length_le hle]
    have e2 : (⟨(cutB s.data.toList).toArray⟩ : ByteArray) = ⟨#[]⟩ := by apply bytes_ext; rw [cutB, List.drop_of_length_le (by omega)]
    rw [e1, e2]
    exact cut_no s HI w

set_option maxRecDepth 100000 in
set_option maxHeartbeats 1000000 in
theorem cut_any (s : ByteArray) (hs : s.size ≤ maxLen) : ∃ q : Bool, ∀ w : World, Calls Tryd.prog 46 #[.string s, .string ⟨#[32]⟩] w fun e w' => e = .returned (.tuple #[.string ⟨(cutA s.data.toList).toArray⟩, .string ⟨(cutB s.data.toList).toArray⟩, .bool q]) ∧ Below w.heap.size w w' := by
  obtain ⟨q, HC⟩ := slCut_any s hs
  refine ⟨q, fun w => ?_⟩
  generalize (⟨(cutA s.data.toList).toArray⟩ : ByteArray) = A at *
  generalize (⟨(cutB s.data.toList).toArray⟩ : ByteArray) = B at *
  have HC : Hid (∀ w : World, _) := HC
  go_enter Tryd.func46, Tryd.ntmps46
  go_wp2_with (go_at_call 68; refine (HC.out _).mono ?_; rintro e w1 ⟨rfl, hb1⟩)
  exact bodyPost_ret (v := .tuple #[.string A, .string B, .bool q]) (by simp [results, Tryd.results46, go_sem, *]) rfl ⟨rfl, hb1⟩

/-- the words as the package's variable holds them -/
def wv41 : Array Value := #[.string ⟨#[]⟩, .string ⟨#[105, 99, 111, 110, 115, 116]⟩, .string ⟨#[105, 108, 111, 97, 100]⟩, .string ⟨#[105, 115, 116, 111, 114, 101]⟩, .string ⟨#[97, 108, 111, 97, 100]⟩, .string ⟨#[97, 115, 116, 111, 114, 101]⟩, .string ⟨#[110, 117, 108, 108]⟩, .string ⟨#[105, 97, 100, 100]⟩, .string ⟨#[105, 115, 117, 98]⟩, .string ⟨#[105, 109, 117, 108]⟩, .string ⟨#[105, 100, 105, 118]⟩, .string ⟨#[103, 111, 116, 111]⟩, .string ⟨#[105, 102, 101, 113]⟩, .string ⟨#[105, 102, 110, 101]⟩, .string ⟨#[105, 102, 108, 116]⟩, .string ⟨#[105, 102, 99, 109, 112, 101, 113]⟩, .string ⟨#[105, 102, 99, 109, 112, 108, 116]⟩, .string ⟨#[105, 102, 97, 99, 109, 112, 101, 113]⟩, .string ⟨#[105, 102, 110, 117, 108, 108]⟩, .string ⟨#[112, 111, 112]⟩, .string ⟨#[100, 117, 112]⟩, .string ⟨#[115, 119, 97, 112]⟩, .string ⟨#[110, 101, 119]⟩, .string ⟨#[110, 101, 119, 97, 114, 114, 97, 121]⟩, .string ⟨#[109, 117, 108, 116, 105, 110, 101, 119]⟩, .string ⟨#[97, 114, 114, 97, 121, 108, 101, 110, 103, 116, 104]⟩, .string ⟨#[105, 97, 108, 111, 97, 100]⟩, .string ⟨#[105, 97, 115, 116, 111, 114, 101]⟩, .string ⟨#[97, 97, 108, 111, 97, 100]⟩, .string ⟨#[97, 97, 115, 116, 111, 114, 101]⟩, .string ⟨#[99, 104, 101, 99, 107, 99, 97, 115, 116]⟩, .string ⟨#[105, 110, 115, 116, 97, 110, 99, 101, 111, 102]⟩, .string ⟨#[105, 110, 118, 111, 107, 101, 118, 105, 114, 116, 117, 97, 108]⟩, .string ⟨#[105, 110, 118, 111, 107, 101, 105, 110, 116, 101, 114, 102, 97, 99, 101]⟩, .string ⟨#[105, 110, 118, 111, 107, 101, 115, 112, 101, 99, 105, 97, 108]⟩, .string ⟨#[105, 110, 118, 111, 107, 101, 115, 116, 97, 116, 105, 99]⟩, .string ⟨#[105, 114, 101, 116, 117, 114, 110]⟩, .string ⟨#[97, 114, 101, 116, 117, 114, 110]⟩, .string ⟨#[114, 101, 116, 117, 114, 110]⟩, .string ⟨#[112, 114, 105, 110, 116]⟩, .string ⟨#[112, 114, 105, 110, 116, 99, 108, 97, 115, 115]⟩]
theorem wv_at (i : Nat) (t : List UInt8) (h : wordsL[i]? = some t) : wv41[i]? = some (.string ⟨t.toArray⟩) := by
  have e : wv41.toList = wordsL.map strV := rfl
  rw [← Array.getElem?_toList, e, List.getElem?_map, h]; rfl
theorem run_words (w : World) (i : Nat) (t : List UInt8) (h : wordsL[i]? = some t) : (Instr.index 49 (.agg wv41) (.int .i64 i)).run Tryd.prog w = .ok (.string ⟨t.toArray⟩) w := by
  have hi : i < 41 := (List.getElem?_eq_some_iff.1 h).1
  simp [Instr.index, run_underlying Tryd.underlying49, asIntOf, go_sem, hi, wv_at i t h]
theorem op_hit (l : List UInt8) (i : Nat) (h : wordsL[i]? = some l) : opOf l = i := by
  have hi : i < 41 := (List.getElem?_eq_some_iff.1 h).1
  by_cases h1 : 1 ≤ i
  · have := (word_op ⟨i, hi⟩ h1).1
    simp only [List.getD_eq_getElem?_getD, h, Option.getD_some] at this
    exact this
  · obtain rfl : i = 0 := by omega
    have : l = [] := (Option.some.inj h).symm
    rw [this]; rfl
theorem op_miss (l : List UInt8) (h : ∀ (j : Nat) (u : List UInt8), j < 41 → wordsL[j]? = some u → u ≠ l) : opOf l = 0 := by
  by_cases h0 : opOf l = 0
  · exact h0
  · have hw := op_word h0
    have hle := op_le l
    by_cases hlt : opOf l < 41
    · exfalso
      have hs : wordsL[opOf l]? = some l := by
        have hx : wordsL[opOf l]? = some (wordsL[opOf l]'(by rw [words_size]; exact hlt)) := List.getElem?_eq_getElem _
        rw [hx]
        rw [List.getD_eq_getElem?_getD, hx] at hw
        exact congrArg some hw
      exact h _ l hlt hs rfl
    · exfalso
      have h41 : opOf l = 41 := by omega
      rw [h41] at hw
      have : l = [] := hw.symm
      rw [this] at h41
      exact absurd h41 (by decide)

/-- the row of the package's variable -/
def WordsRow (w : World) : Prop := ∃ t fr, w.heap[0]? = some (.cells wv41 t fr)
theorem WordsRow.keep {w w' : World} (h : WordsRow w) (hb : Below w.heap.size w w') : WordsRow w' := by
  obtain ⟨t, fr, h⟩ := h
  exact ⟨t, fr, (hb.block 0 (Array.getElem?_eq_some_iff.1 h).1).trans h⟩
theorem words_row {W : World} (h : Lib.VarReads Tryd.prog W "arbiter/code.words" Rows.laid_arbiter_code_words) : WordsRow W := by
  obtain ⟨g, t, cs, fuel, p, hg, ht, hvar, hd⟩ := h
  obtain rfl := Option.some.inj (Tryd.wordsG.symm.trans hg)
  obtain rfl := Option.some.inj (Tryd.wordsT.symm.trans ht)
  rw [laid_list] at hd
  have hl : cs.toList.length = 41 := by
    cases fuel with
    | zero => simp [DataW.trod] at hd
    | succ fuel =>
      simp only [DataW.trod, Tryd.underlying49, Tryd.cells49] at hd
      split at hd
      · rename_i hh; exact hh
      · cases hd
  have hc : cs = wv41 := by
    apply Array.ext_getElem?
    intro i
    by_cases hi : i < 41
    · obtain ⟨x, hx⟩ : ∃ x, wordsL[i]? = some x := ⟨_, List.getElem?_eq_getElem (by rw [words_size]; exact hi)⟩
      rw [wv_at i x hx, ← Array.getElem?_toList]
      exact cells_of_words hd i x hx
    · rw [Array.getElem?_eq_none (by rw [← Array.length_toList, hl]; omega), Array.getElem?_eq_none (by have : wv41.size = 41 := rfl; omega)]
  rw [hc] at hvar
  simp only [World.var?, hg, Option.bind_some] at hvar
  split at hvar
  · rename_i cs' t' fr' hh
    rw [Option.some.inj hvar] at hh
    exact ⟨t', fr', hh⟩
  · cases hvar

set_option maxRecDepth 100000 in
set_option maxHeartbeats 2000000 in
theorem opOf_any (s : ByteArray) (w : World) (h : WordsRow w) : Calls Tryd.prog 48 #[.string s] w fun e w' => e = .returned (.int .i64 (opOf s.data.toList)) ∧ w' = w := by
  obtain ⟨WV, hWV⟩ : ∃ WV, WV = wv41 := ⟨_, rfl⟩
  obtain ⟨rt, rf, hrow⟩ := h
  have HI : Hid (∀ (i : Nat) (t : List UInt8) (w : World), wordsL[i]? = some t → (Instr.index 49 (.agg WV) (.int .i64 i)).run Tryd.prog w = .ok (.string ⟨t.toArray⟩) w) := fun i t w h => by rw [hWV]; exact run_words w i t h
  have hsz : (Tryd.prog.info? 49).map (·.size) = some WV.size := by rw [hWV]; kernel_rfl
  rw [← hWV] at hrow
  clear hWV
  have HH : Hid (∀ i t, wordsL[i]? = some t → t = s.data.toList → opOf s.data.toList = i) := fun i t h1 h2 => op_hit _ i (by rw [← h2]; exact h1)
  have HZ : Hid _ := op_miss s.data.toList
  have HROW : Hid (w.heap[0]? = some (.cells WV rt rf)) := hrow
  have HSZ : Hid ((Tryd.prog.info? 49).map (·.size) = some WV.size) := hsz
  clear hrow hsz
  go_enter Tryd.func48, Tryd.ntmps48
  go_wp2_with (refine wpList_load_row rfl 49 (.global 0) rfl 0 rfl _ WV _ _ HROW.out Tryd.underlying49 rfl HSZ.out ?_)
  go_loop [6] (fun iv => ∃ (i : Nat), iv = .int .i64 i ∧ i ≤ 41 ∧ Hid (∀ (j : Nat) (u : List UInt8), j < i → wordsL[j]? = some u → u ≠ s.data.toList)) (fun iv => 41 - (intOf iv).toNat)
  case atStart => exact ⟨0, rfl, Nat.zero_le _, fun j u hj => absurd hj (Nat.not_lt_zero _)⟩
  case round =>
    obtain ⟨i, rfl, hi, HN⟩ := hrel
    by_cases hlt : i < 41
    · obtain ⟨t, ht⟩ : ∃ t, wordsL[i]? = some t := ⟨_, List.getElem?_eq_getElem (by rw [words_size]; exact hlt)⟩
      have hix : ∀ w, _ := fun w => HI.out i t w ht
      obtain ⟨X, hX⟩ : ∃ X : ByteArray, X = ⟨t.toArray⟩ := ⟨_, rfl⟩
      rw [← hX] at hix
      have hbe : (s.toList == X.toList) = decide (s.data.toList = t) := by
        rw [Lib.toList_data, Lib.toList_data, hX, Bool.eq_iff_iff]; simp
      by_cases he : s.data.toList = t
      · have hq : (s.toList == X.toList) = true := by rw [hbe]; exact decide_eq_true he
        have HR : Hid (opOf s.data.toList = i) := HH.out i t ht he.symm
        clear hbe he hX ht HN HH HZ HI
        go_wp2
        go_ret
        exact ⟨ret_int (by rw [HR.out]), rfl⟩
      · have hq : (s.toList == X.toList) = false := by rw [hbe]; exact decide_eq_false he
        have HN2 : Hid (∀ (j : Nat) (u : List UInt8), j < i + 1 → wordsL[j]? = some u → u ≠ s.data.toList) := by
          intro j u hj hu e
          by_cases hji : j < i
          · exact HN.out j u hji hu e
          · obtain rfl : j = i := by omega
            rw [ht] at hu
            obtain rfl := Option.some.inj hu
            exact he e.symm
        clear hbe he hX ht HN HH HZ HI
        go_wp2
        go_round
        case rel => exact ⟨i + 1, by go_num, by omega, HN2⟩
        case measure => simp [intOf]; omega
    · have HR : Hid (opOf s.data.toList = 0) := HZ.out (fun j u hj hu => HN.out j u (by omega) hu)
      clear HN HI HZ HH
      go_wp2
      go_ret
      exact ⟨ret_int (by rw [HR.out]; rfl), rfl⟩

/-- the library's two errors are there -/
def EIn (w : World) : Prop := (∃ tp p, w.var? Tryd.prog "strconv.ErrSyntax" = some #[.iface tp p]) ∧ ∃ tp p, w.var? Tryd.prog "strconv.ErrRange" = some #[.iface tp p]
theorem Tryd.synG : Tryd.prog.globalNamed "strconv.ErrSyntax" = some 3 := by kernel_rfl
theorem Tryd.rngG : Tryd.prog.globalNamed "strconv.ErrRange" = some 4 := by kernel_rfl
theorem EIn.keep {w w' : World} (h : EIn w) (hb : Below w.heap.size w w') : EIn w' := by
  obtain ⟨⟨t1, p1, h1⟩, t2, p2, h2⟩ := h
  exact ⟨⟨t1, p1, Joins.var_stays Tryd.synG h1 hb (Nat.le_refl _)⟩, t2, p2, Joins.var_stays Tryd.rngG h2 hb (Nat.le_refl _)⟩

theorem bytes_below (w : World) (e : TypeId) (t : ByteArray) : Below w.heap.size w (Lib.bytesWorld w e t) := Lib.bytesWorld_below w e t

/-- strconv.Atoi: a number and no error, or an error -/
theorem atoi_any (s : ByteArray) (hs : s.size ≤ 140737488351232) (w : World) (h : EIn w) :
    Calls Tryd.prog 86 #[.string s] w fun e w' => (∃ n er, e = .returned (.tuple #[.int .i64 n, er]) ∧ ((er = .nilIface ∧ rdN s.data.toList = n) ∨ (∃ tp a, er = .iface tp (.pointer a)) ∧ rdN s.data.toList = 0)) ∧ Below w.heap.size w w' := by
  obtain ⟨⟨t1, p1, h1⟩, t2, p2, h2⟩ := h
  cases ha : Lib.atoiAll s.data.toList with
  | ok v =>
    refine (Tryd.strconv_Atoi_ok s (by omega) v ha w).mono fun e w' ⟨he, hw⟩ => ⟨⟨v, .nilIface, he, .inl ⟨rfl, by rw [rdN, ha]⟩⟩, ?_⟩
    rcases hw with rfl | ⟨t, rfl⟩
    · exact Below.refl _ _
    · exact bytes_below _ _ _
  | «syntax» =>
    refine (Tryd.strconv_Atoi_syntax_var s (by omega) ha t1 p1 w h1).mono fun e w' ⟨N, he, _, _, hb⟩ => ⟨⟨0, _, he, .inr ⟨⟨_, _, rfl⟩, by rw [rdN, ha]⟩⟩, hb⟩
  | range =>
    refine (Tryd.strconv_Atoi_range_var s (by omega) ha t2 p2 w h2).mono fun e w' ⟨N, he, _, _, hb⟩ => ⟨⟨_, _, he, .inr ⟨⟨_, _, rfl⟩, by rw [rdN, ha]⟩⟩, hb⟩

set_option maxRecDepth 100000 in
set_option maxHeartbeats 1000000 in
theorem readNumber_any (s : ByteArray) (hs : s.size ≤ 140737488351232) (w : World) (h : EIn w) : Calls Tryd.prog 69 #[.string s] w fun e w' => e = .returned (.int .i64 (rdN s.data.toList)) ∧ Below w.heap.size w w' := by
  have HA : Hid (∀ w : World, EIn w → _) := fun w h => atoi_any s hs w h
  have HE : Hid (EIn w) := h
  clear h hs
  generalize rdN s.data.toList = r at *
  go_enter Tryd.func69, Tryd.ntmps69
  go_wp2_with (go_at_call 86; refine (HA.out _ HE.out).mono ?_; rintro e w1 ⟨⟨n, er, rfl, hcase⟩, hb1⟩; rcases hcase with ⟨rfl, rfl⟩ | ⟨⟨tp, a, rfl⟩, rfl⟩)
  all_goals
    go_ret
    exact ⟨rfl, hb1⟩

theorem rdN_bounds (l : List UInt8) : -9223372036854775808 ≤ rdN l ∧ rdN l ≤ 9223372036854775807 := by
  unfold rdN
  cases h : Lib.atoiAll l with
  | ok v => exact Lib.atoiAll_bounds h
  | «syntax» => simp only; omega
  | range => simp only; omega
end Go.Proofs.YtijlipllahfakaaDoor

namespace Go.Proofs.YtijlipllahfakaaDoor
open Go.RowKit

theorem piece_size (s : ByteArray) (l : List UInt8) (h : l.length ≤ s.data.toList.length) : (⟨l.toArray⟩ : ByteArray).size ≤ s.size := by
  rw [mk_size]
  have : s.data.toList.length = s.size := by simp
  omega
theorem cutA_len (l : List UInt8) : (cutA l).length ≤ l.length := by unfold cutA; rw [List.length_take]; omega
theorem cutB_len (l : List UInt8) : (cutB l).length ≤ l.length := by unfold cutB; rw [List.length_drop]; omega


set_option maxRecDepth 100000 in
set_option maxHeartbeats 2000000 in
theorem readOp_none (o : Int) (hk : opdI o = -1) (x : ByteArray) (w : World) : Calls Tryd.prog 47 #[.int .i64 o, .string x] w fun e w' => e = .returned (insV (rdI o x.data.toList)) ∧ Below w.heap.size w w' := by
  have HO := operand_any o
  rw [hk] at HO
  have HO : Hid (∀ w, _) := HO
  have HR : insV (rdI o x.data.toList) = .agg #[.int .i64 o, .int .i64 0, .string ⟨#[]⟩, .bool false, .string ⟨#[]⟩, .string ⟨#[]⟩, .string ⟨#[]⟩] := by rw [rdI, if_neg (by omega), if_neg (by omega), if_neg (by omega), if_neg (by omega)]; rfl
  rw [HR]
  clear HR hk
  go_enter Tryd.func47, Tryd.ntmps47
  go_wp2_with (first
    | (go_at_call 11; refine ((HO.out) _).mono ?_; rintro e w0 ⟨rfl, hw0⟩; rw [hw0]; clear hw0 HO))
  refine bodyPost_ret (v := .agg #[.int .i64 o, .int .i64 0, .string ⟨#[]⟩, .bool false, .string ⟨#[]⟩, .string ⟨#[]⟩, .string ⟨#[]⟩]) (by simp [results, Tryd.results47, go_sem, *]) rfl ⟨rfl, ?_⟩
  exact ((Below.refl _ _).alloc (Nat.le_refl _) _)

set_option maxRecDepth 100000 in
set_option maxHeartbeats 2000000 in
theorem readOp_0 (o : Int) (hk : opdI o = 0) (x : ByteArray) (w : World) : Calls Tryd.prog 47 #[.int .i64 o, .string x] w fun e w' => e = .returned (insV (rdI o x.data.toList)) ∧ Below w.heap.size w w' := by
  have HO := operand_any o
  rw [hk] at HO
  have HO : Hid (∀ w, _) := HO
  have HR : insV (rdI o x.data.toList) = .agg #[.int .i64 o, .int .i64 0, .string ⟨#[]⟩, .bool false, .string ⟨#[]⟩, .string ⟨#[]⟩, .string ⟨#[]⟩] := by rw [rdI, if_neg (by omega), if_neg (by omega), if_neg (by omega), if_neg (by omega)]; rfl
  rw [HR]
  clear HR hk
  go_enter Tryd.func47, Tryd.ntmps47
  go_wp2_with (first
    | (go_at_call 11; refine ((HO.out) _).mono ?_; rintro e w0 ⟨rfl, hw0⟩; rw [hw0]; clear hw0 HO))
  refine bodyPost_ret (v := .agg #[.int .i64 o, .int .i64 0, .string ⟨#[]⟩, .bool false, .string ⟨#[]⟩, .string ⟨#[]⟩, .string ⟨#[]⟩]) (by simp [results, Tryd.results47, go_sem, *]) rfl ⟨rfl, ?_⟩
  exact ((Below.refl _ _).alloc (Nat.le_refl _) _)

set_option maxRecDepth 100000 in
set_option maxHeartbeats 2000000 in
theorem readOp_1 (o : Int) (hk : opdI o = 1) (x : ByteArray) (w : World) (hs : x.size ≤ 140737488351232) (hE : EIn w) : Calls Tryd.prog 47 #[.int .i64 o, .string x] w fun e w' => e = .returned (insV (rdI o x.data.toList)) ∧ Below w.heap.size w w' := by
  have HO := operand_any o
  rw [hk] at HO
  have HO : Hid (∀ w, _) := HO
  have HR : insV (rdI o x.data.toList) = .agg #[.int .i64 o, .int .i64 (rdN x.data.toList), .string ⟨#[]⟩, .bool false, .string ⟨#[]⟩, .string ⟨#[]⟩, .string ⟨#[]⟩] := by rw [rdI, if_pos (by omega)]; rfl
  rw [HR]
  clear HR hk
  have HX : Hid (∀ w, EIn w → _) := fun w h => readNumber_any x hs w h
  have HE : Hid (EIn (w.alloc (.cells #[.int .i64 0, .int .i64 0, .string ⟨#[]⟩, .bool false, .string ⟨#[]⟩, .string ⟨#[]⟩, .string ⟨#[]⟩] 25))) := hE.keep ((Below.refl _ _).alloc (Nat.le_refl _) _)
  clear hE hs
  generalize rdN x.data.toList = rn at *
  go_enter Tryd.func47, Tryd.ntmps47
  go_wp2_with (first
    | (go_at_call 11; refine ((HO.out) _).mono ?_; rintro e w0 ⟨rfl, hw0⟩; rw [hw0]; clear hw0 HO)
    | (go_at_call 69; refine ((HX.out) _ HE.out).mono ?_; rintro e w1 ⟨rfl, hb1⟩; have hs1 : w.heap.size < w1.heap.size := (by have := hb1.size; simp at this; omega); have hz10 : w1.cell? ⟨w.heap.size, 0, none⟩ = some (.int .i64 0) := (hb1.cell (p := ⟨w.heap.size, 0, none⟩) (by first | (simp; done) | (simp; omega))).trans (by first | assumption | (simp [go_sem, *]; done)); have hf10 : w1.frozen? ⟨w.heap.size, 0, none⟩ = false := (hb1.frozen (p := ⟨w.heap.size, 0, none⟩) (by first | (simp; done) | (simp; omega))).trans (by first | assumption | (simp [go_sem, *]; done)); have hz11 : w1.cell? ⟨w.heap.size, 1, none⟩ = some (.int .i64 0) := (hb1.cell (p := ⟨w.heap.size, 1, none⟩) (by first | (simp; done) | (simp; omega))).trans (by first | assumption | (simp [go_sem, *]; done)); have hf11 : w1.frozen? ⟨w.heap.size, 1, none⟩ = false := (hb1.frozen (p := ⟨w.heap.size, 1, none⟩) (by first | (simp; done) | (simp; omega))).trans (by first | assumption | (simp [go_sem, *]; done)); have hz12 : w1.cell? ⟨w.heap.size, 2, none⟩ = some (.string ⟨#[]⟩) := (hb1.cell (p := ⟨w.heap.size, 2, none⟩) (by first | (simp; done) | (simp; omega))).trans (by first | assumption | (simp [go_sem, *]; done)); have hf12 : w1.frozen? ⟨w.heap.size, 2, none⟩ = false := (hb1.frozen (p := ⟨w.heap.size, 2, none⟩) (by first | (simp; done) | (simp; omega))).trans (by first | assumption | (simp [go_sem, *]; done)); have hz13 : w1.cell? ⟨w.heap.size, 3, none⟩ = some (.bool false) := (hb1.cell (p := ⟨w.heap.size, 3, none⟩) (by first | (simp; done) | (simp; omega))).trans (by first | assumption | (simp [go_sem, *]; done)); have hf13 : w1.frozen? ⟨w.heap.size, 3, none⟩ = false := (hb1.frozen (p := ⟨w.heap.size, 3, none⟩) (by first | (simp; done) | (simp; omega))).trans (by first | assumption | (simp [go_sem, *]; done)); have hz14 : w1.cell? ⟨w.heap.size, 4, none⟩ = some (.string ⟨#[]⟩) := (hb1.cell (p := ⟨w.heap.size, 4, none⟩) (by first | (simp; done) | (simp; omega))).trans (by first | assumption | (simp [go_sem, *]; done)); have hf14 : w1.frozen? ⟨w.heap.size, 4, none⟩ = false := (hb1.frozen (p := ⟨w.heap.size, 4, none⟩) (by first | (simp; done) | (simp; omega))).trans (by first | assumption | (simp [go_sem, *]; done)); have hz15 : w1.cell? ⟨w.heap.size, 5, none⟩ = some (.string ⟨#[]⟩) := (hb1.cell (p := ⟨w.heap.size, 5, none⟩) (by first | (simp; done) | (simp; omega))).trans (by first | assumption | (simp [go_sem, *]; done)); have hf15 : w1.frozen? ⟨w.heap.size, 5, none⟩ = false := (hb1.frozen (p := ⟨w.heap.size, 5, none⟩) (by first | (simp; done) | (simp; omega))).trans (by first | assumption | (simp [go_sem, *]; done)); have hz16 : w1.cell? ⟨w.heap.size, 6, none⟩ = some (.string ⟨#[]⟩) := (hb1.cell (p := ⟨w.heap.size, 6, none⟩) (by first | (simp; done) | (simp; omega))).trans (by first | assumption | (simp [go_sem, *]; done)); have hf16 : w1.frozen? ⟨w.heap.size, 6, none⟩ = false := (hb1.frozen (p := ⟨w.heap.size, 6, none⟩) (by first | (simp; done) | (simp; omega))).trans (by first | assumption | (simp [go_sem, *]; done)); have hB1 : Hid (Below w.heap.size w w1) := Below.step ((Below.refl _ _).alloc (Nat.le_refl _) _) hb1; clear hb1))
  refine bodyPost_ret (v := .agg #[.int .i64 o, .int .i64 rn, .string ⟨#[]⟩, .bool false, .string ⟨#[]⟩, .string ⟨#[]⟩, .string ⟨#[]⟩]) (by simp [results, Tryd.results47, go_sem, *]) rfl ⟨rfl, ?_⟩
  exact (((((((hB1.out).setCell (Nat.le_refl _) _).setCell (Nat.le_refl _) _).setCell (Nat.le_refl _) _).setCell (Nat.le_refl _) _).setCell (Nat.le_refl _) _).setCell (Nat.le_refl _) _).setCell (Nat.le_refl _) _

set_option maxRecDepth 100000 in
set_option maxHeartbeats 2000000 in
theorem readOp_2 (o : Int) (hk : opdI o = 2) (x : ByteArray) (w : World) (hs : x.size ≤ 140737488351232) (hE : EIn w) : Calls Tryd.prog 47 #[.int .i64 o, .string x] w fun e w' => e = .returned (insV (rdI o x.data.toList)) ∧ Below w.heap.size w w' := by
  have HO := operand_any o
  rw [hk] at HO
  have HO : Hid (∀ w, _) := HO
  have HR : insV (rdI o x.data.toList) = .agg #[.int .i64 o, .int .i64 (rdN x.data.toList), .string ⟨#[]⟩, .bool false, .string ⟨#[]⟩, .string ⟨#[]⟩, .string ⟨#[]⟩] := by rw [rdI, if_pos (by omega)]; rfl
  rw [HR]
  clear HR hk
  have HX : Hid (∀ w, EIn w → _) := fun w h => readNumber_any x hs w h
  have HE : Hid (EIn (w.alloc (.cells #[.int .i64 0, .int .i64 0, .string ⟨#[]⟩, .bool false, .string ⟨#[]⟩, .string ⟨#[]⟩, .string ⟨#[]⟩] 25))) := hE.keep ((Below.refl _ _).alloc (Nat.le_refl _) _)
  clear hE hs
  generalize rdN x.data.toList = rn at *
  go_enter Tryd.func47, Tryd.ntmps47
  go_wp2_with (first
    | (go_at_call 11; refine ((HO.out) _).mono ?_; rintro e w0 ⟨rfl, hw0⟩; rw [hw0]; clear hw0 HO)
    | (go_at_call 69; refine ((HX.out) _ HE.out).mono ?_; rintro e w1 ⟨rfl, hb1⟩; have hs1 : w.heap.size < w1.heap.size := (by have := hb1.size; simp at this; omega); have hz10 : w1.cell? ⟨w.heap.size, 0, none⟩ = some (.int .i64 0) := (hb1.cell (p := ⟨w.heap.size, 0, none⟩) (by first | (simp; done) | (simp; omega))).trans (by first | assumption | (simp [go_sem, *]; done)); have hf10 : w1.frozen? ⟨w.heap.size, 0, none⟩ = false := (hb1.frozen (p := ⟨w.heap.size, 0, none⟩) (by first | (simp; done) | (simp; omega))).trans (by first | assumption | (simp [go_sem, *]; done)); have hz11 : w1.cell? ⟨w.heap.size, 1, none⟩ = some (.int .i64 0) := (hb1.cell (p := ⟨w.heap.size, 1, none⟩) (by first | (simp; done) | (simp; omega))).trans (by first | assumption | (simp [go_sem, *]; done)); have hf11 : w1.frozen? ⟨w.heap.size, 1, none⟩ = false := (hb1.frozen (p := ⟨w.heap.size, 1, none⟩) (by first | (simp; done) | (simp; omega))).trans (by first | assumption | (simp [go_sem, *]; done)); have hz12 : w1.cell? ⟨w.heap.size, 2, none⟩ = some (.string ⟨#[]⟩) := (hb1.cell (p := ⟨w.heap.size, 2, none⟩) (by first | (simp; done) | (simp; omega))).trans (by first | assumption | (simp [go_sem, *]; done)); have hf12 : w1.frozen? ⟨w.heap.size, 2, none⟩ = false := (hb1.frozen (p := ⟨w.heap.size, 2, none⟩) (by first | (simp; done) | (simp; omega))).trans (by first | assumption | (simp [go_sem, *]; done)); have hz13 : w1.cell? ⟨w.heap.size, 3, none⟩ = some (.bool false) := (hb1.cell (p := ⟨w.heap.size, 3, none⟩) (by first | (simp; done) | (simp; omega))).trans (by first | assumption | (simp [go_sem, *]; done)); have hf13 : w1.frozen? ⟨w.heap.size, 3, none⟩ = false := (hb1.frozen (p := ⟨w.heap.size, 3, none⟩) (by first | (simp; done) | (simp; omega))).trans (by first | assumption | (simp [go_sem, *]; done)); have hz14 : w1.cell? ⟨w.heap.size, 4, none⟩ = some (.string ⟨#[]⟩) := (hb1.cell (p := ⟨w.heap.size, 4, none⟩) (by first | (simp; done) | (simp; omega))).trans (by first | assumption | (simp [go_sem, *]; done)); have hf14 : w1.frozen? ⟨w.heap.size, 4, none⟩ = false := (hb1.frozen (p := ⟨w.heap.size, 4, none⟩) (by first | (simp; done) | (simp; omega))).trans (by first | assumption | (simp [go_sem, *]; done)); have hz15 : w1.cell? ⟨w.heap.size, 5, none⟩ = some (.string ⟨#[]⟩) := (hb1.cell (p := ⟨w.heap.size, 5, none⟩) (by first | (simp; done) | (simp; omega))).trans (by first | assumption | (simp [go_sem, *]; done)); have hf15 : w1.frozen? ⟨w.heap.size, 5, none⟩ = false := (hb1.frozen (p := ⟨w.heap.size, 5, none⟩) (by first | (simp; done) | (simp; omega))).trans (by first | assumption | (simp [go_sem, *]; done)); have hz16 : w1.cell? ⟨w.heap.size, 6, none⟩ = some (.string ⟨#[]⟩) := (hb1.cell (p := ⟨w.heap.size, 6, none⟩) (by first | (simp; done) | (simp; omega))).trans (by first | assumption | (simp [go_sem, *]; done)); have hf16 : w1.frozen? ⟨w.heap.size, 6, none⟩ = false := (hb1.frozen (p := ⟨w.heap.size, 6, none⟩) (by first | (simp; done) | (simp; omega))).trans (by first | assumption | (simp [go_sem, *]; done)); have hB1 : Hid (Below w.heap.size w w1) := Below.step ((Below.refl _ _).alloc (Nat.le_refl _) _) hb1; clear hb1))
  refine bodyPost_ret (v := .agg #[.int .i64 o, .int .i64 rn, .string ⟨#[]⟩, .bool false, .string ⟨#[]⟩, .string ⟨#[]⟩, .string ⟨#[]⟩]) (by simp [results, Tryd.results47, go_sem, *]) rfl ⟨rfl, ?_⟩
  exact (((((((hB1.out).setCell (Nat.le_refl _) _).setCell (Nat.le_refl _) _).setCell (Nat.le_refl _) _).setCell (Nat.le_refl _) _).setCell (Nat.le_refl _) _).setCell (Nat.le_refl _) _).setCell (Nat.le_refl _) _

set_option maxRecDepth 100000 in
set_option maxHeartbeats 2000000 in
theorem readOp_3 (o : Int) (hk : opdI o = 3) (x : ByteArray) (w : World) (hs : x.size ≤ 140737488351232) (hE : EIn w) : Calls Tryd.prog 47 #[.int .i64 o, .string x] w fun e w' => e = .returned (insV (rdI o x.data.toList)) ∧ Below w.heap.size w w' := by
  have HO := operand_any o
  rw [hk] at HO
  have HO : Hid (∀ w, _) := HO
  have HR : insV (rdI o x.data.toList) = .agg #[.int .i64 o, .int .i64 (rdN x.data.toList), .string ⟨#[]⟩, .bool false, .string ⟨#[]⟩, .string ⟨#[]⟩, .string ⟨#[]⟩] := by rw [rdI, if_pos (by omega)]; rfl
  rw [HR]
  clear HR hk
  have HX : Hid (∀ w, EIn w → _) := fun w h => readNumber_any x hs w h
  have HE : Hid (EIn (w.alloc (.cells #[.int .i64 0, .int .i64 0, .string ⟨#[]⟩, .bool false, .string ⟨#[]⟩, .string ⟨#[]⟩, .string ⟨#[]⟩] 25))) := hE.keep ((Below.refl _ _).alloc (Nat.le_refl _) _)
  clear hE hs
  generalize rdN x.data.toList = rn at *
  go_enter Tryd.func47, Tryd.ntmps47
  go_wp2_with (first
    | (go_at_call 11; refine ((HO.out) _).mono ?_; rintro e w0 ⟨rfl, hw0⟩; rw [hw0]; clear hw0 HO)
    | (go_at_call 69; refine ((HX.out) _ HE.out).mono ?_; rintro e w1 ⟨rfl, hb1⟩; have hs1 : w.heap.size < w1.heap.size := (by have := hb1.size; simp at this; omega); have hz10 : w1.cell? ⟨w.heap.size, 0, none⟩ = some (.int .i64 0) := (hb1.cell (p := ⟨w.heap.size, 0, none⟩) (by first | (simp; done) | (simp; omega))).trans (by first | assumption | (simp [go_sem, *]; done)); have hf10 : w1.frozen? ⟨w.heap.size, 0, none⟩ = false := (hb1.frozen (p := ⟨w.heap.size, 0, none⟩) (by first | (simp; done) | (simp; omega))).trans (by first | assumption | (simp [go_sem, *]; done)); have hz11 : w1.cell? ⟨w.heap.size, 1, none⟩ = some (.int .i64 0) := (hb1.cell (p := ⟨w.heap.size, 1, none⟩) (by first | (simp; done) | (simp; omega))).trans (by first | assumption | (simp [go_sem, *]; done)); have hf11 : w1.frozen? ⟨w.heap.size, 1, none⟩ = false := (hb1.frozen (p := ⟨w.heap.size, 1, none⟩) (by first | (simp; done) | (simp; omega))).trans (by first | assumption | (simp [go_sem, *]; done)); have hz12 : w1.cell? ⟨w.heap.size, 2, none⟩ = some (.string ⟨#[]⟩) := (hb1.cell (p := ⟨w.heap.size, 2, none⟩) (by first | (simp; done) | (simp; omega))).trans (by first | assumption | (simp [go_sem, *]; done)); have hf12 : w1.frozen? ⟨w.heap.size, 2, none⟩ = false := (hb1.frozen (p := ⟨w.heap.size, 2, none⟩) (by first | (simp; done) | (simp; omega))).trans (by first | assumption | (simp [go_sem, *]; done)); have hz13 : w1.cell? ⟨w.heap.size, 3, none⟩ = some (.bool false) := (hb1.cell (p := ⟨w.heap.size, 3, none⟩) (by first | (simp; done) | (simp; omega))).trans (by first | assumption | (simp [go_sem, *]; done)); have hf13 : w1.frozen? ⟨w.heap.size, 3, none⟩ = false := (hb1.frozen (p := ⟨w.heap.size, 3, none⟩) (by first | (simp; done) | (simp; omega))).trans (by first | assumption | (simp [go_sem, *]; done)); have hz14 : w1.cell? ⟨w.heap.size, 4, none⟩ = some (.string ⟨#[]⟩) := (hb1.cell (p := ⟨w.heap.size, 4, none⟩) (by first | (simp; done) | (simp; omega))).trans (by first | assumption | (simp [go_sem, *]; done)); have hf14 : w1.frozen? ⟨w.heap.size, 4, none⟩ = false := (hb1.frozen (p := ⟨w.heap.size, 4, none⟩) (by first | (simp; done) | (simp; omega))).trans (by first | assumption | (simp [go_sem, *]; done)); have hz15 : w1.cell? ⟨w.heap.size, 5, none⟩ = some (.string ⟨#[]⟩) := (hb1.cell (p := ⟨w.heap.size, 5, none⟩) (by first | (simp; done) | (simp; omega))).trans (by first | assumption | (simp [go_sem, *]; done)); have hf15 : w1.frozen? ⟨w.heap.size, 5, none⟩ = false := (hb1.frozen (p := ⟨w.heap.size, 5, none⟩) (by first | (simp; done) | (simp; omega))).trans (by first | assumption | (simp [go_sem, *]; done)); have hz16 : w1.cell? ⟨w.heap.size, 6, none⟩ = some (.string ⟨#[]⟩) := (hb1.cell (p := ⟨w.heap.size, 6, none⟩) (by first | (simp; done) | (simp; omega))).trans (by first | assumption | (simp [go_sem, *]; done)); have hf16 : w1.frozen? ⟨w.heap.size, 6, none⟩ = false := (hb1.frozen (p := ⟨w.heap.size, 6, none⟩) (by first | (simp; done) | (simp; omega))).trans (by first | assumption | (simp [go_sem, *]; done)); have hB1 : Hid (Below w.heap.size w w1) := Below.step ((Below.refl _ _).alloc (Nat.le_refl _) _) hb1; clear hb1))
  refine bodyPost_ret (v := .agg #[.int .i64 o, .int .i64 rn, .string ⟨#[]⟩, .bool false, .string ⟨#[]⟩, .string ⟨#[]⟩, .string ⟨#[]⟩]) (by simp [results, Tryd.results47, go_sem, *]) rfl ⟨rfl, ?_⟩
  exact (((((((hB1.out).setCell (Nat.le_refl _) _).setCell (Nat.le_refl _) _).setCell (Nat.le_refl _) _).setCell (Nat.le_refl _) _).setCell (Nat.le_refl _) _).setCell (Nat.le_refl _) _).setCell (Nat.le_refl _) _

set_option maxRecDepth 100000 in
set_option maxHeartbeats 2000000 in
theorem readOp_4 (o : Int) (hk : opdI o = 4) (x : ByteArray) (w : World) : Calls Tryd.prog 47 #[.int .i64 o, .string x] w fun e w' => e = .returned (insV (rdI o x.data.toList)) ∧ Below w.heap.size w w' := by
  have HO := operand_any o
  rw [hk] at HO
  have HO : Hid (∀ w, _) := HO
  have HR : insV (rdI o x.data.toList) = .agg #[.int .i64 o, .int .i64 0, .string ⟨x.data.toList.toArray⟩, .bool false, .string ⟨#[]⟩, .string ⟨#[]⟩, .string ⟨#[]⟩] := by rw [rdI, if_neg (by omega), if_pos (by omega)]; rfl
  rw [HR]
  clear HR hk
  have hxx : (⟨x.data.toList.toArray⟩ : ByteArray) = x := by apply bytes_ext; simp
  rw [hxx]
  clear hxx
  go_enter Tryd.func47, Tryd.ntmps47
  go_wp2_with (first
    | (go_at_call 11; refine ((HO.out) _).mono ?_; rintro e w0 ⟨rfl, hw0⟩; rw [hw0]; clear hw0 HO))
  refine bodyPost_ret (v := .agg #[.int .i64 o, .int .i64 0, .string x, .bool false, .string ⟨#[]⟩, .string ⟨#[]⟩, .string ⟨#[]⟩]) (by simp [results, Tryd.results47, go_sem, *]) rfl ⟨rfl, ?_⟩
  exact ((Below.refl _ _).alloc (Nat.le_refl _) _)

set_option maxRecDepth 100000 in
set_option maxHeartbeats 2000000 in
theorem readOp_5 (o : Int) (hk : opdI o = 5) (x : ByteArray) (w : World) : Calls Tryd.prog 47 #[.int .i64 o, .string x] w fun e w' => e = .returned (insV (rdI o x.data.toList)) ∧ Below w.heap.size w w' := by
  have HO := operand_any o
  rw [hk] at HO
  have HO : Hid (∀ w, _) := HO
  have HR : insV (rdI o x.data.toList) = .agg #[.int .i64 o, .int .i64 0, .string ⟨x.data.toList.toArray⟩, .bool false, .string ⟨#[]⟩, .string ⟨#[]⟩, .string ⟨#[]⟩] := by rw [rdI, if_neg (by omega), if_pos (by omega)]; rfl
  rw [HR]
  clear HR hk
  have hxx : (⟨x.data.toList.toArray⟩ : ByteArray) = x := by apply bytes_ext; simp
  rw [hxx]
  clear hxx
  go_enter Tryd.func47, Tryd.ntmps47
  go_wp2_with (first
    | (go_at_call 11; refine ((HO.out) _).mono ?_; rintro e w0 ⟨rfl, hw0⟩; rw [hw0]; clear hw0 HO))
  refine bodyPost_ret (v := .agg #[.int .i64 o, .int .i64 0, .string x, .bool false, .string ⟨#[]⟩, .string ⟨#[]⟩, .string ⟨#[]⟩]) (by simp [results, Tryd.results47, go_sem, *]) rfl ⟨rfl, ?_⟩
  exact ((Below.refl _ _).alloc (Nat.le_refl _) _)

set_option maxRecDepth 100000 in
set_option maxHeartbeats 2000000 in
theorem readOp_6 (o : Int) (hk : opdI o = 6) (x : ByteArray) (w : World) : Calls Tryd.prog 47 #[.int .i64 o, .string x] w fun e w' => e = .returned (insV (rdI o x.data.toList)) ∧ Below w.heap.size w w' := by
  have HO := operand_any o
  rw [hk] at HO
  have HO : Hid (∀ w, _) := HO
  have HR : insV (rdI o x.data.toList) = .agg #[.int .i64 o, .int .i64 0, .string ⟨x.data.toList.toArray⟩, .bool false, .string ⟨#[]⟩, .string ⟨#[]⟩, .string ⟨#[]⟩] := by rw [rdI, if_neg (by omega), if_pos (by omega)]; rfl
  rw [HR]
  clear HR hk
  have hxx : (⟨x.data.toList.toArray⟩ : ByteArray) = x := by apply bytes_ext; simp
  rw [hxx]
  clear hxx
  go_enter Tryd.func47, Tryd.ntmps47
  go_wp2_with (first
    | (go_at_call 11; refine ((HO.out) _).mono ?_; rintro e w0 ⟨rfl, hw0⟩; rw [hw0]; clear hw0 HO))
  refine bodyPost_ret (v := .agg #[.int .i64 o, .int .i64 0, .string x, .bool false, .string ⟨#[]⟩, .string ⟨#[]⟩, .string ⟨#[]⟩]) (by simp [results, Tryd.results47, go_sem, *]) rfl ⟨rfl, ?_⟩
  exact ((Below.refl _ _).alloc (Nat.le_refl _) _)

set_option maxRecDepth 100000 in
set_option maxHeartbeats 2000000 in
theorem readOp_7 (o : Int) (hk : opdI o = 7) (x : ByteArray) (w : World) (hs : x.size ≤ 140737488351232) (hE : EIn w) : Calls Tryd.prog 47 #[.int .i64 o, .string x] w fun e w' => e = .returned (insV (rdI o x.data.toList)) ∧ Below w.heap.size w w' := by
  have HO := operand_any o
  rw [hk] at HO
  have HO : Hid (∀ w, _) := HO
  have HR : insV (rdI o x.data.toList) = .agg #[.int .i64 o, .int .i64 (rdN (cutA x.data.toList)), .string ⟨(cutB x.data.toList).toArray⟩, .bool false, .string ⟨#[]⟩, .string ⟨#[]⟩, .string ⟨#[]⟩] := by rw [rdI, if_neg (by omega), if_neg (by omega), if_pos hk]; rfl
  rw [HR]
  clear HR hk
  obtain ⟨q, HQ⟩ := cut_any x (by unfold maxLen; omega)
  have HQ : Hid (∀ w : World, _) := HQ
  have hsA : (⟨(cutA x.data.toList).toArray⟩ : ByteArray).size ≤ 140737488351232 := Nat.le_trans (piece_size x _ (cutA_len _)) hs
  have HX : Hid (∀ w, EIn w → Calls Tryd.prog 69 #[.string ⟨(cutA x.data.toList).toArray⟩] w fun e w' => e = .returned (.int .i64 (rdN (cutA x.data.toList))) ∧ Below w.heap.size w w') := fun w h => readNumber_any ⟨(cutA x.data.toList).toArray⟩ hsA w h
  have HE : Hid (∀ w', Below w.heap.size w w' → EIn w') := fun w' h => hE.keep h
  clear hE hs hsA
  generalize rdN (cutA x.data.toList) = rn at *
  generalize (⟨(cutA x.data.toList).toArray⟩ : ByteArray) = A at *
  generalize (⟨(cutB x.data.toList).toArray⟩ : ByteArray) = B at *
  go_enter Tryd.func47, Tryd.ntmps47
  go_wp2_with (first
    | (go_at_call 11; refine ((HO.out) _).mono ?_; rintro e w0 ⟨rfl, hw0⟩; rw [hw0]; clear hw0 HO)
    | (go_at_call 46; refine ((HQ.out) _).mono ?_; rintro e w1 ⟨rfl, hb1⟩; have hs1 : w.heap.size < w1.heap.size := (by have := hb1.size; simp at this; omega); have hz10 : w1.cell? ⟨w.heap.size, 0, none⟩ = some (.int .i64 0) := (hb1.cell (p := ⟨w.heap.size, 0, none⟩) (by first | (simp; done) | (simp; omega))).trans (by first | assumption | (simp [go_sem, *]; done)); have hf10 : w1.frozen? ⟨w.heap.size, 0, none⟩ = false := (hb1.frozen (p := ⟨w.heap.size, 0, none⟩) (by first | (simp; done) | (simp; omega))).trans (by first | assumption | (simp [go_sem, *]; done)); have hz11 : w1.cell? ⟨w.heap.size, 1, none⟩ = some (.int .i64 0) := (hb1.cell (p := ⟨w.heap.size, 1, none⟩) (by first | (simp; done) | (simp; omega))).trans (by first | assumption | (simp [go_sem, *]; done)); have hf11 : w1.frozen? ⟨w.heap.size, 1, none⟩ = false := (hb1.frozen (p := ⟨w.heap.size, 1, none⟩) (by first | (simp; done) | (simp; omega))).trans (by first | assumption | (simp [go_sem, *]; done)); have hz12 : w1.cell? ⟨w.heap.size, 2, none⟩ = some (.string ⟨#[]⟩) := (hb1.cell (p := ⟨w.heap.size, 2, none⟩) (by first | (simp; done) | (simp; omega))).trans (by first | assumption | (simp [go_sem, *]; done)); have hf12 : w1.frozen? ⟨w.heap.size, 2, none⟩ = false := (hb1.frozen (p := ⟨w.heap.size, 2, none⟩) (by first | (simp; done) | (simp; omega))).trans (by first | assumption | (simp [go_sem, *]; done)); have hz13 : w1.cell? ⟨w.heap.size, 3, none⟩ = some (.bool false) := (hb1.cell (p := ⟨w.heap.size, 3, none⟩) (by first | (simp; done) | (simp; omega))).trans (by first | assumption | (simp [go_sem, *]; done)); have hf13 : w1.frozen? ⟨w.heap.size, 3, none⟩ = false := (hb1.frozen (p := ⟨w.heap.size, 3, none⟩) (by first | (simp; done) | (simp; omega))).trans (by first | assumption | (simp [go_sem, *]; done)); have hz14 : w1.cell? ⟨w.heap.size, 4, none⟩ = some (.string ⟨#[]⟩) := (hb1.cell (p := ⟨w.heap.size, 4, none⟩) (by first | (simp; done) | (simp; omega))).trans (by first | assumption | (simp [go_sem, *]; done)); have hf14 : w1.frozen? ⟨w.heap.size, 4, none⟩ = false := (hb1.frozen (p := ⟨w.heap.size, 4, none⟩) (by first | (simp; done) | (simp; omega))).trans (by first | assumption | (simp [go_sem, *]; done)); have hz15 : w1.cell? ⟨w.heap.size, 5, none⟩ = some (.string ⟨#[]⟩) := (hb1.cell (p := ⟨w.heap.size, 5, none⟩) (by first | (simp; done) | (simp; omega))).trans (by first | assumption | (simp [go_sem, *]; done)); have hf15 : w1.frozen? ⟨w.heap.size, 5, none⟩ = false := (hb1.frozen (p := ⟨w.heap.size, 5, none⟩) (by first | (simp; done) | (simp; omega))).trans (by first | assumption | (simp [go_sem, *]; done)); have hz16 : w1.cell? ⟨w.heap.size, 6, none⟩ = some (.string ⟨#[]⟩) := (hb1.cell (p := ⟨w.heap.size, 6, none⟩) (by first | (simp; done) | (simp; omega))).trans (by first | assumption | (simp [go_sem, *]; done)); have hf16 : w1.frozen? ⟨w.heap.size, 6, none⟩ = false := (hb1.frozen (p := ⟨w.heap.size, 6, none⟩) (by first | (simp; done) | (simp; omega))).trans (by first | assumption | (simp [go_sem, *]; done)); have hB1 : Hid (Below w.heap.size w w1) := Below.step ((Below.refl _ _).alloc (Nat.le_refl _) _) hb1; clear hb1)
    | (go_at_call 69; refine ((HX.out) _ (HE.out _ hB1.out)).mono ?_; rintro e w2 ⟨rfl, hb2⟩; have hs2 : w.heap.size < w2.heap.size := Nat.lt_of_lt_of_le hs1 hb2.size; have hz20 : w2.cell? ⟨w.heap.size, 0, none⟩ = some (.int .i64 0) := (hb2.cell (p := ⟨w.heap.size, 0, none⟩) (by first | (simp; done) | (simp; omega))).trans (by first | assumption | (simp [go_sem, *]; done)); have hf20 : w2.frozen? ⟨w.heap.size, 0, none⟩ = false := (hb2.frozen (p := ⟨w.heap.size, 0, none⟩) (by first | (simp; done) | (simp; omega))).trans (by first | assumption | (simp [go_sem, *]; done)); have hz21 : w2.cell? ⟨w.heap.size, 1, none⟩ = some (.int .i64 0) := (hb2.cell (p := ⟨w.heap.size, 1, none⟩) (by first | (simp; done) | (simp; omega))).trans (by first | assumption | (simp [go_sem, *]; done)); have hf21 : w2.frozen? ⟨w.heap.size, 1, none⟩ = false := (hb2.frozen (p := ⟨w.heap.size, 1, none⟩) (by first | (simp; done) | (simp; omega))).trans (by first | assumption | (simp [go_sem, *]; done)); have hz22 : w2.cell? ⟨w.heap.size, 2, none⟩ = some (.string ⟨#[]⟩) := (hb2.cell (p := ⟨w.heap.size, 2, none⟩) (by first | (simp; done) | (simp; omega))).trans (by first | assumption | (simp [go_sem, *]; done)); have hf22 : w2.frozen? ⟨w.heap.size, 2, none⟩ = false := (hb2.frozen (p := ⟨w.heap.size, 2, none⟩) (by first | (simp; done) | (simp; omega))).trans (by first | assumption | (simp [go_sem, *]; done)); have hz23 : w2.cell? ⟨w.heap.size, 3, none⟩ = some (.bool false) := (hb2.cell (p := ⟨w.heap.size, 3, none⟩) (by first | (simp; done) | (simp; omega))).trans (by first | assumption | (simp [go_sem, *]; done)); have hf23 : w2.frozen? ⟨w.heap.size, 3, none⟩ = false := (hb2.frozen (p := ⟨w.heap.size, 3, none⟩) (by first | (simp; done) | (simp; omega))).trans (by first | assumption | (simp [go_sem, *]; done)); have hz24 : w2.cell? ⟨w.heap.size, 4, none⟩ = some (.string ⟨#[]⟩) := (hb2.cell (p := ⟨w.heap.size, 4, none⟩) (by first | (simp; done) | (simp; omega))).trans (by first | assumption | (simp [go_sem, *]; done)); have hf24 : w2.frozen? ⟨w.heap.size, 4, none⟩ = false := (hb2.frozen (p := ⟨w.heap.size, 4, none⟩) (by first | (simp; done) | (simp; omega))).trans (by first | assumption | (simp [go_sem, *]; done)); have hz25 : w2.cell? ⟨w.heap.size, 5, none⟩ = some (.string ⟨#[]⟩) := (hb2.cell (p := ⟨w.heap.size, 5, none⟩) (by first | (simp; done) | (simp; omega))).trans (by first | assumption | (simp [go_sem, *]; done)); have hf25 : w2.frozen? ⟨w.heap.size, 5, none⟩ = false := (hb2.frozen (p := ⟨w.heap.size, 5, none⟩) (by first | (simp; done) | (simp; omega))).trans (by first | assumption | (simp [go_sem, *]; done)); have hz26 : w2.cell? ⟨w.heap.size, 6, none⟩ = some (.string ⟨#[]⟩) := (hb2.cell (p := ⟨w.heap.size, 6, none⟩) (by first | (simp; done) | (simp; omega))).trans (by first | assumption | (simp [go_sem, *]; done)); have hf26 : w2.frozen? ⟨w.heap.size, 6, none⟩ = false := (hb2.frozen (p := ⟨w.heap.size, 6, none⟩) (by first | (simp; done) | (simp; omega))).trans (by first | assumption | (simp [go_sem, *]; done)); have hB2 : Hid (Below w.heap.size w w2) := hB1.out.trans (hb2.mono hB1.out.size); clear hb2))
  refine bodyPost_ret (v := .agg #[.int .i64 o, .int .i64 rn, .string B, .bool false, .string ⟨#[]⟩, .string ⟨#[]⟩, .string ⟨#[]⟩]) (by simp [results, Tryd.results47, go_sem, *]) rfl ⟨rfl, ?_⟩
  exact (((((((hB2.out).setCell (Nat.le_refl _) _).setCell (Nat.le_refl _) _).setCell (Nat.le_refl _) _).setCell (Nat.le_refl _) _).setCell (Nat.le_refl _) _).setCell (Nat.le_refl _) _).setCell (Nat.le_refl _) _

set_option maxRecDepth 100000 in
set_option maxHeartbeats 2000000 in
theorem readOp_8 (o : Int) (hk : opdI o = 8) (x : ByteArray) (w : World) (hs : x.size ≤ maxLen) : Calls Tryd.prog 47 #[.int .i64 o, .string x] w fun e w' => e = .returned (insV (rdI o x.data.toList)) ∧ Below w.heap.size w w' := by
  have HO := operand_any o
  rw [hk] at HO
  have HO : Hid (∀ w, _) := HO
  have HR : insV (rdI o x.data.toList) = .agg #[.int .i64 o, .int .i64 0, .string ⟨#[]⟩, .bool (rfOK x.data.toList && rfB x.data.toList), .string (if rfOK x.data.toList then ⟨(rfC x.data.toList).toArray⟩ else ⟨#[]⟩), .string (if rfOK x.data.toList then ⟨(rfN x.data.toList).toArray⟩ else ⟨#[]⟩), .string (if rfOK x.data.toList then ⟨(rfD x.data.toList).toArray⟩ else ⟨#[]⟩)] := by rw [rdI, if_neg (by omega), if_neg (by omega), if_neg (by omega), if_pos hk]; rfl
  rw [HR]
  clear HR hk
  have HX := parseRefText_any x hs
  unfold rfOut at HX
  have HX : Hid (∀ w : World, _) := HX
  clear hs
  generalize (rfOK x.data.toList && rfB x.data.toList) = qb at *
  generalize (if rfOK x.data.toList = true then (⟨(rfC x.data.toList).toArray⟩ : ByteArray) else ⟨#[]⟩) = C at *
  generalize (if rfOK x.data.toList = true then (⟨(rfN x.data.toList).toArray⟩ : ByteArray) else ⟨#[]⟩) = M at *
  generalize (if rfOK x.data.toList = true then (⟨(rfD x.data.toList).toArray⟩ : ByteArray) else ⟨#[]⟩) = D at *
  generalize (if rfOK x.data.toList = true then (0 : Int) else 4) = er at *
  go_enter Tryd.func47, Tryd.ntmps47
  go_wp2_with (first
    | (go_at_call 11; refine ((HO.out) _).mono ?_; rintro e w0 ⟨rfl, hw0⟩; rw [hw0]; clear hw0 HO)
    | (go_at_call 21; refine ((HX.out) _).mono ?_; rintro e w1 ⟨rfl, hb1⟩; have hs1 : w.heap.size < w1.heap.size := (by have := hb1.size; simp at this; omega); have hz10 : w1.cell? ⟨w.heap.size, 0, none⟩ = some (.int .i64 0) := (hb1.cell (p := ⟨w.heap.size, 0, none⟩) (by first | (simp; done) | (simp; omega))).trans (by first | assumption | (simp [go_sem, *]; done)); have hf10 : w1.frozen? ⟨w.heap.size, 0, none⟩ = false := (hb1.frozen (p := ⟨w.heap.size, 0, none⟩) (by first | (simp; done) | (simp; omega))).trans (by first | assumption | (simp [go_sem, *]; done)); have hz11 : w1.cell? ⟨w.heap.size, 1, none⟩ = some (.int .i64 0) := (hb1.cell (p := ⟨w.heap.size, 1, none⟩) (by first | (simp; done) | (simp; omega))).trans (by first | assumption | (simp [go_sem, *]; done)); have hf11 : w1.frozen? ⟨w.heap.size, 1, none⟩ = false := (hb1.frozen (p := ⟨w.heap.size, 1, none⟩) (by first | (simp; done) | (simp; omega))).trans (by first | assumption | (simp [go_sem, *]; done)); have hz12 : w1.cell? ⟨w.heap.size, 2, none⟩ = some (.string ⟨#[]⟩) := (hb1.cell (p := ⟨w.heap.size, 2, none⟩) (by first | (simp; done) | (simp; omega))).trans (by first | assumption | (simp [go_sem, *]; done)); have hf12 : w1.frozen? ⟨w.heap.size, 2, none⟩ = false := (hb1.frozen (p := ⟨w.heap.size, 2, none⟩) (by first | (simp; done) | (simp; omega))).trans (by first | assumption | (simp [go_sem, *]; done)); have hz13 : w1.cell? ⟨w.heap.size, 3, none⟩ = some (.bool false) := (hb1.cell (p := ⟨w.heap.size, 3, none⟩) (by first | (simp; done) | (simp; omega))).trans (by first | assumption | (simp [go_sem, *]; done)); have hf13 : w1.frozen? ⟨w.heap.size, 3, none⟩ = false := (hb1.frozen (p := ⟨w.heap.size, 3, none⟩) (by first | (simp; done) | (simp; omega))).trans (by first | assumption | (simp [go_sem, *]; done)); have hz14 : w1.cell? ⟨w.heap.size, 4, none⟩ = some (.string ⟨#[]⟩) := (hb1.cell (p := ⟨w.heap.size, 4, none⟩) (by first | (simp; done) | (simp; omega))).trans (by first | assumption | (simp [go_sem, *]; done)); have hf14 : w1.frozen? ⟨w.heap.size, 4, none⟩ = false := (hb1.frozen (p := ⟨w.heap.size, 4, none⟩) (by first | (simp; done) | (simp; omega))).trans (by first | assumption | (simp [go_sem, *]; done)); have hz15 : w1.cell? ⟨w.heap.size, 5, none⟩ = some (.string ⟨#[]⟩) := (hb1.cell (p := ⟨w.heap.size, 5, none⟩) (by first | (simp; done) | (simp; omega))).trans (by first | assumption | (simp [go_sem, *]; done)); have hf15 : w1.frozen? ⟨w.heap.size, 5, none⟩ = false := (hb1.frozen (p := ⟨w.heap.size, 5, none⟩) (by first | (simp; done) | (simp; omega))).trans (by first | assumption | (simp [go_sem, *]; done)); have hz16 : w1.cell? ⟨w.heap.size, 6, none⟩ = some (.string ⟨#[]⟩) := (hb1.cell (p := ⟨w.heap.size, 6, none⟩) (by first | (simp; done) | (simp; omega))).trans (by first | assumption | (simp [go_sem, *]; done)); have hf16 : w1.frozen? ⟨w.heap.size, 6, none⟩ = false := (hb1.frozen (p := ⟨w.heap.size, 6, none⟩) (by first | (simp; done) | (simp; omega))).trans (by first | assumption | (simp [go_sem, *]; done)); have hB1 : Hid (Below w.heap.size w w1) := Below.step ((Below.refl _ _).alloc (Nat.le_refl _) _) hb1; clear hb1; have hA : Below w1.heap.size w1 (w1.alloc (.cells #[.bool qb, .string C, .string M, .string D] 23)) := (Below.refl _ _).alloc (Nat.le_refl _) _; have hz40 : (w1.alloc (.cells #[.bool qb, .string C, .string M, .string D] 23)).cell? ⟨w.heap.size, 0, none⟩ = some (.int .i64 0) := (hA.cell (p := ⟨w.heap.size, 0, none⟩) (by first | (simp; done) | (simp; omega))).trans (by first | assumption | (simp [go_sem, *]; done)); have hf40 : (w1.alloc (.cells #[.bool qb, .string C, .string M, .string D] 23)).frozen? ⟨w.heap.size, 0, none⟩ = false := (hA.frozen (p := ⟨w.heap.size, 0, none⟩) (by first | (simp; done) | (simp; omega))).trans (by first | assumption | (simp [go_sem, *]; done)); have hz41 : (w1.alloc (.cells #[.bool qb, .string C, .string M, .string D] 23)).cell? ⟨w.heap.size, 1, none⟩ = some (.int .i64 0) := (hA.cell (p := ⟨w.heap.size, 1, none⟩) (by first | (simp; done) | (simp; omega))).trans (by first | assumption | (simp [go_sem, *]; done)); have hf41 : (w1.alloc (.cells #[.bool qb, .string C, .string M, .string D] 23)).frozen? ⟨w.heap.size, 1, none⟩ = false := (hA.frozen (p := ⟨w.heap.size, 1, none⟩) (by first | (simp; done) | (simp; omega))).trans (by first | assumption | (simp [go_sem, *]; done)); have hz42 : (w1.alloc (.cells #[.bool qb, .string C, .string M, .string D] 23)).cell? ⟨w.heap.size, 2, none⟩ = some (.string ⟨#[]⟩) := (hA.cell (p := ⟨w.heap.size, 2, none⟩) (by first | (simp; done) | (simp; omega))).trans (by first | assumption | (simp [go_sem, *]; done)); have hf42 : (w1.alloc (.cells #[.bool qb, .string C, .string M, .string D] 23)).frozen? ⟨w.heap.size, 2, none⟩ = false := (hA.frozen (p := ⟨w.heap.size, 2, none⟩) (by first | (simp; done) | (simp; omega))).trans (by first | assumption | (simp [go_sem, *]; done)); have hz43 : (w1.alloc (.cells #[.bool qb, .string C, .string M, .string D] 23)).cell? ⟨w.heap.size, 3, none⟩ = some (.bool false) := (hA.cell (p := ⟨w.heap.size, 3, none⟩) (by first | (simp; done) | (simp; omega))).trans (by first | assumption | (simp [go_sem, *]; done)); have hf43 : (w1.alloc (.cells #[.bool qb, .string C, .string M, .string D] 23)).frozen? ⟨w.heap.size, 3, none⟩ = false := (hA.frozen (p := ⟨w.heap.size, 3, none⟩) (by first | (simp; done) | (simp; omega))).trans (by first | assumption | (simp [go_sem, *]; done)); have hz44 : (w1.alloc (.cells #[.bool qb, .string C, .string M, .string D] 23)).cell? ⟨w.heap.size, 4, none⟩ = some (.string ⟨#[]⟩) := (hA.cell (p := ⟨w.heap.size, 4, none⟩) (by first | (simp; done) | (simp; omega))).trans (by first | assumption | (simp [go_sem, *]; done)); have hf44 : (w1.alloc (.cells #[.bool qb, .string C, .string M, .string D] 23)).frozen? ⟨w.heap.size, 4, none⟩ = false := (hA.frozen (p := ⟨w.heap.size, 4, none⟩) (by first | (simp; done) | (simp; omega))).trans (by first | assumption | (simp [go_sem, *]; done)); have hz45 : (w1.alloc (.cells #[.bool qb, .string C, .string M, .string D] 23)).cell? ⟨w.heap.size, 5, none⟩ = some (.string ⟨#[]⟩) := (hA.cell (p := ⟨w.heap.size, 5, none⟩) (by first | (simp; done) | (simp; omega))).trans (by first | assumption | (simp [go_sem, *]; done)); have hf45 : (w1.alloc (.cells #[.bool qb, .string C, .string M, .string D] 23)).frozen? ⟨w.heap.size, 5, none⟩ = false := (hA.frozen (p := ⟨w.heap.size, 5, none⟩) (by first | (simp; done) | (simp; omega))).trans (by first | assumption | (simp [go_sem, *]; done)); have hz46 : (w1.alloc (.cells #[.bool qb, .string C, .string M, .string D] 23)).cell? ⟨w.heap.size, 6, none⟩ = some (.string ⟨#[]⟩) := (hA.cell (p := ⟨w.heap.size, 6, none⟩) (by first | (simp; done) | (simp; omega))).trans (by first | assumption | (simp [go_sem, *]; done)); have hf46 : (w1.alloc (.cells #[.bool qb, .string C, .string M, .string D] 23)).frozen? ⟨w.heap.size, 6, none⟩ = false := (hA.frozen (p := ⟨w.heap.size, 6, none⟩) (by first | (simp; done) | (simp; omega))).trans (by first | assumption | (simp [go_sem, *]; done)); clear hA))
  refine bodyPost_ret (v := .agg #[.int .i64 o, .int .i64 0, .string ⟨#[]⟩, .bool qb, .string C, .string M, .string D]) (by simp [results, Tryd.results47, go_sem, *]) rfl ⟨rfl, ?_⟩
  exact (let h7 := (((((((hB1.out).setCell (Nat.le_refl _) _).setCell (Nat.le_refl _) _).setCell (Nat.le_refl _) _).setCell (Nat.le_refl _) _).setCell (Nat.le_refl _) _).setCell (Nat.le_refl _) _).setCell (Nat.le_refl _) _; h7.alloc h7.size _)

theorem readOp_any (o : Int) (x : ByteArray) (hs : x.size ≤ 140737488351232) (w : World) (hE : EIn w) : Calls Tryd.prog 47 #[.int .i64 o, .string x] w fun e w' => e = .returned (insV (rdI o x.data.toList)) ∧ Below w.heap.size w w' := by
  rcases opd_cases o with e | e | e | e | e | e | e | e | e | e
  · exact readOp_none o e x w
  · exact readOp_0 o e x w
  · exact readOp_1 o e x w hs hE
  · exact readOp_2 o e x w hs hE
  · exact readOp_3 o e x w hs hE
  · exact readOp_4 o e x w
  · exact readOp_5 o e x w
  · exact readOp_6 o e x w
  · exact readOp_7 o e x w hs hE
  · exact readOp_8 o e x w (by unfold maxLen; omega)

theorem rf_size (x : ByteArray) (p : Bool) (l : List UInt8) (h : l.length ≤ x.data.toList.length) (hx : x.size ≤ maxLen) : (if p = true then (⟨l.toArray⟩ : ByteArray) else ⟨#[]⟩).size ≤ maxLen := by
  cases p
  · show (⟨#[]⟩ : ByteArray).size ≤ maxLen; decide
  · exact Nat.le_trans (piece_size x l h) hx
/-- what is read is an instruction whose numbers are ints and whose texts are texts -/
theorem rdI_ok (o : Int) (x : ByteArray) (hx : x.size ≤ maxLen) : (-9223372036854775808 ≤ (rdI o x.data.toList).n ∧ (rdI o x.data.toList).n ≤ 9223372036854775807) ∧ InsOK (rdI o x.data.toList) := by
  have hz : (⟨#[]⟩ : ByteArray).size ≤ maxLen := by decide
  unfold rdI
  split
  · exact ⟨rdN_bounds _, hz, hz, hz, hz⟩
  · split
    · exact ⟨⟨by simp only; omega, by simp only; omega⟩, Nat.le_trans (piece_size x _ (Nat.le_refl _)) hx, hz, hz, hz⟩
    · split
      · exact ⟨rdN_bounds _, Nat.le_trans (piece_size x _ (cutB_len _)) hx, hz, hz, hz⟩
      · split
        · refine ⟨⟨by simp only; omega, by simp only; omega⟩, hz, rf_size x _ _ ?_ hx, rf_size x _ _ ?_ hx, rf_size x _ _ ?_ hx⟩
          · unfold rfC; rw [List.length_take]; omega
          · unfold rfN; rw [List.length_take, List.length_drop]; omega
          · unfold rfD; rw [List.length_drop]; omega
        · exact ⟨⟨by simp only; omega, by simp only; omega⟩, hz, hz, hz, hz⟩


set_option maxRecDepth 100000 in
set_option maxHeartbeats 4000000 in
theorem parse_yes (s A B P : ByteArray) (q : Bool) (op : Nat) (io iN : Int) (it : ByteArray) (ib : Bool) (ic im id : ByteArray) (hcmp : (P.toList == s.toList) = true) (w : World)
    (HQ : ∀ w' : World, Calls Tryd.prog 46 #[.string s, .string ⟨#[32]⟩] w' fun e w'' => e = .returned (.tuple #[.string A, .string B, .bool q]) ∧ Below w'.heap.size w' w'')
    (HO : ∀ w', Below w.heap.size w w' → Calls Tryd.prog 48 #[.string A] w' fun e w'' => e = .returned (.int .i64 (op : Int)) ∧ w'' = w')
    (HR : ∀ w', Below w.heap.size w w' → Calls Tryd.prog 47 #[.int .i64 (op : Int), .string B] w' fun e w'' => e = .returned (.agg #[.int .i64 io, .int .i64 iN, .string it, .bool ib, .string ic, .string im, .string id]) ∧ Below w'.heap.size w' w'')
    (HP : ∀ w', Below w.heap.size w w' → Calls Tryd.prog 15 #[.agg #[.int .i64 io, .int .i64 iN, .string it, .bool ib, .string ic, .string im, .string id]] w' fun e w'' => e = .returned (.tuple #[.string P, .int .i64 0]) ∧ Below w'.heap.size w' w'') :
    Calls Tryd.prog 26 #[.string s] w fun e w' => e = .returned (.tuple #[.agg #[.int .i64 io, .int .i64 iN, .string it, .bool ib, .string ic, .string im, .string id], .int .i64 0]) ∧ Below w.heap.size w w' := by
  have HQ : Hid (∀ w' : World, _) := HQ
  have HO : Hid (∀ w' : World, _ → _) := HO
  have HR : Hid (∀ w' : World, _ → _) := HR
  have HP : Hid (∀ w' : World, _ → _) := HP
  have hne : (P.toList != s.toList) = !true := by rw [bne, hcmp]
  go_enter Tryd.func26, Tryd.ntmps26
  go_wp2_with (first
    | (go_at_call 46; refine (HQ.out _).mono ?_; rintro e w1 ⟨rfl, hb1⟩; have hs1 : w.heap.size < w1.heap.size := (by have := hb1.size; simp at this; omega); have hz10 : w1.cell? ⟨w.heap.size, 0, none⟩ = some (.int .i64 0) := (hb1.cell (p := ⟨w.heap.size, 0, none⟩) (by first | (simp; done) | (simp; omega))).trans (by first | assumption | (simp [go_sem, *]; done)); have hf10 : w1.frozen? ⟨w.heap.size, 0, none⟩ = false := (hb1.frozen (p := ⟨w.heap.size, 0, none⟩) (by first | (simp; done) | (simp; omega))).trans (by first | assumption | (simp [go_sem, *]; done)); have hz11 : w1.cell? ⟨w.heap.size, 1, none⟩ = some (.int .i64 0) := (hb1.cell (p := ⟨w.heap.size, 1, none⟩) (by first | (simp; done) | (simp; omega))).trans (by first | assumption | (simp [go_sem, *]; done)); have hf11 : w1.frozen? ⟨w.heap.size, 1, none⟩ = false := (hb1.frozen (p := ⟨w.heap.size, 1, none⟩) (by first | (simp; done) | (simp; omega))).trans (by first | assumption | (simp [go_sem, *]; done)); have hz12 : w1.cell? ⟨w.heap.size, 2, none⟩ = some (.string ⟨#[]⟩) := (hb1.cell (p := ⟨w.heap.size, 2, none⟩) (by first | (simp; done) | (simp; omega))).trans (by first | assumption | (simp [go_sem, *]; done)); have hf12 : w1.frozen? ⟨w.heap.size, 2, none⟩ = false := (hb1.frozen (p := ⟨w.heap.size, 2, none⟩) (by first | (simp; done) | (simp; omega))).trans (by first | assumption | (simp [go_sem, *]; done)); have hz13 : w1.cell? ⟨w.heap.size, 3, none⟩ = some (.bool false) := (hb1.cell (p := ⟨w.heap.size, 3, none⟩) (by first | (simp; done) | (simp; omega))).trans (by first | assumption | (simp [go_sem, *]; done)); have hf13 : w1.frozen? ⟨w.heap.size, 3, none⟩ = false := (hb1.frozen (p := ⟨w.heap.size, 3, none⟩) (by first | (simp; done) | (simp; omega))).trans (by first | assumption | (simp [go_sem, *]; done)); have hz14 : w1.cell? ⟨w.heap.size, 4, none⟩ = some (.string ⟨#[]⟩) := (hb1.cell (p := ⟨w.heap.size, 4, none⟩) (by first | (simp; done) | (simp; omega))).trans (by first | assumption | (simp [go_sem, *]; done)); have hf14 : w1.frozen? ⟨w.heap.size, 4, none⟩ = false := (hb1.frozen (p := ⟨w.heap.size, 4, none⟩) (by first | (simp; done) | (simp; omega))).trans (by first | assumption | (simp [go_sem, *]; done)); have hz15 : w1.cell? ⟨w.heap.size, 5, none⟩ = some (.string ⟨#[]⟩) := (hb1.cell (p := ⟨w.heap.size, 5, none⟩) (by first | (simp; done) | (simp; omega))).trans (by first | assumption | (simp [go_sem, *]; done)); have hf15 : w1.frozen? ⟨w.heap.size, 5, none⟩ = false := (hb1.frozen (p := ⟨w.heap.size, 5, none⟩) (by first | (simp; done) | (simp; omega))).trans (by first | assumption | (simp [go_sem, *]; done)); have hz16 : w1.cell? ⟨w.heap.size, 6, none⟩ = some (.string ⟨#[]⟩) := (hb1.cell (p := ⟨w.heap.size, 6, none⟩) (by first | (simp; done) | (simp; omega))).trans (by first | assumption | (simp [go_sem, *]; done)); have hf16 : w1.frozen? ⟨w.heap.size, 6, none⟩ = false := (hb1.frozen (p := ⟨w.heap.size, 6, none⟩) (by first | (simp; done) | (simp; omega))).trans (by first | assumption | (simp [go_sem, *]; done)); have hB1 : Hid (Below w.heap.size w w1) := Below.step ((Below.refl _ _).alloc (Nat.le_refl _) _) hb1; clear hb1 HQ)
    | (go_at_call 48; refine (HO.out _ hB1.out).mono ?_; rintro e w9 ⟨rfl, hw9⟩; rw [hw9]; clear hw9 HO)
    | (go_at_call 47; refine (HR.out _ hB1.out).mono ?_; rintro e w2 ⟨rfl, hb2⟩; have hs2 : w.heap.size < w2.heap.size := Nat.lt_of_lt_of_le hs1 hb2.size; have hz20 : w2.cell? ⟨w.heap.size, 0, none⟩ = some (.int .i64 0) := (hb2.cell (p := ⟨w.heap.size, 0, none⟩) (by first | (simp; done) | (simp; omega))).trans (by first | assumption | (simp [go_sem, *]; done)); have hf20 : w2.frozen? ⟨w.heap.size, 0, none⟩ = false := (hb2.frozen (p := ⟨w.heap.size, 0, none⟩) (by first | (simp; done) | (simp; omega))).trans (by first | assumption | (simp [go_sem, *]; done)); have hz21 : w2.cell? ⟨w.heap.size, 1, none⟩ = some (.int .i64 0) := (hb2.cell (p := ⟨w.heap.size, 1, none⟩) (by first | (simp; done) | (simp; omega))).trans (by first | assumption | (simp [go_sem, *]; done)); have hf21 : w2.frozen? ⟨w.heap.size, 1, none⟩ = false := (hb2.frozen (p := ⟨w.heap.size, 1, none⟩) (by first | (simp; done) | (simp; omega))).trans (by first | assumption | (simp [go_sem, *]; done)); have hz22 : w2.cell? ⟨w.heap.size, 2, none⟩ = some (.string ⟨#[]⟩) := (hb2.cell (p := ⟨w.heap.size, 2, none⟩) (by first | (simp; done) | (simp; omega))).trans (by first | assumption | (simp [go_sem, *]; done)); have hf22 : w2.frozen? ⟨w.heap.size, 2, none⟩ = false := (hb2.frozen (p := ⟨w.heap.size, 2, none⟩) (by first | (simp; done) | (simp; omega))).trans (by first | assumption | (simp [go_sem, *]; done)); have hz23 : w2.cell? ⟨w.heap.size, 3, none⟩ = some (.bool false) := (hb2.cell (p := ⟨w.heap.size, 3, none⟩) (by first | (simp; done) | (simp; omega))).trans (by first | assumption | (simp [go_sem, *]; done)); have hf23 : w2.frozen? ⟨w.heap.size, 3, none⟩ = false := (hb2.frozen (p := ⟨w.heap.size, 3, none⟩) (by first | (simp; done) | (simp; omega))).trans (by first | assumption | (simp [go_sem, *]; done)); have hz24 : w2.cell? ⟨w.heap.size, 4, none⟩ = some (.string ⟨#[]⟩) := (hb2.cell (p := ⟨w.heap.size, 4, none⟩) (by first | (simp; done) | (simp; omega))).trans (by first | assumption | (simp [go_sem, *]; done)); have hf24 : w2.frozen? ⟨w.heap.size, 4, none⟩ = false := (hb2.frozen (p := ⟨w.heap.size, 4, none⟩) (by first | (simp; done) | (simp; omega))).trans (by first | assumption | (simp [go_sem, *]; done)); have hz25 : w2.cell? ⟨w.heap.size, 5, none⟩ = some (.string ⟨#[]⟩) := (hb2.cell (p := ⟨w.heap.size, 5, none⟩) (by first | (simp; done) | (simp; omega))).trans (by first | assumption | (simp [go_sem, *]; done)); have hf25 : w2.frozen? ⟨w.heap.size, 5, none⟩ = false := (hb2.frozen (p := ⟨w.heap.size, 5, none⟩) (by first | (simp; done) | (simp; omega))).trans (by first | assumption | (simp [go_sem, *]; done)); have hz26 : w2.cell? ⟨w.heap.size, 6, none⟩ = some (.string ⟨#[]⟩) := (hb2.cell (p := ⟨w.heap.size, 6, none⟩) (by first | (simp; done) | (simp; omega))).trans (by first | assumption | (simp [go_sem, *]; done)); have hf26 : w2.frozen? ⟨w.heap.size, 6, none⟩ = false := (hb2.frozen (p := ⟨w.heap.size, 6, none⟩) (by first | (simp; done) | (simp; omega))).trans (by first | assumption | (simp [go_sem, *]; done)); have hB2 : Hid (Below w.heap.size w w2) := hB1.out.trans (hb2.mono hB1.out.size); clear hb2 HR)
    | (go_at_call 15; refine (HP.out _ (hB2.out.alloc hB2.out.size _)).mono ?_; rintro e w3 ⟨rfl, hb3⟩; have hr0 : w3.cell? ⟨w2.heap.size, 0, none⟩ = some (.int .i64 io) := (hb3.cell (p := ⟨w2.heap.size, 0, none⟩) (by simp)).trans (by simp [go_sem, *]); have hr1 : w3.cell? ⟨w2.heap.size, 1, none⟩ = some (.int .i64 iN) := (hb3.cell (p := ⟨w2.heap.size, 1, none⟩) (by simp)).trans (by simp [go_sem, *]); have hr2 : w3.cell? ⟨w2.heap.size, 2, none⟩ = some (.string it) := (hb3.cell (p := ⟨w2.heap.size, 2, none⟩) (by simp)).trans (by simp [go_sem, *]); have hr3 : w3.cell? ⟨w2.heap.size, 3, none⟩ = some (.bool ib) := (hb3.cell (p := ⟨w2.heap.size, 3, none⟩) (by simp)).trans (by simp [go_sem, *]); have hr4 : w3.cell? ⟨w2.heap.size, 4, none⟩ = some (.string ic) := (hb3.cell (p := ⟨w2.heap.size, 4, none⟩) (by simp)).trans (by simp [go_sem, *]); have hr5 : w3.cell? ⟨w2.heap.size, 5, none⟩ = some (.string im) := (hb3.cell (p := ⟨w2.heap.size, 5, none⟩) (by simp)).trans (by simp [go_sem, *]); have hr6 : w3.cell? ⟨w2.heap.size, 6, none⟩ = some (.string id) := (hb3.cell (p := ⟨w2.heap.size, 6, none⟩) (by simp)).trans (by simp [go_sem, *]); have hs3 : w.heap.size < w3.heap.size := (by have := hb3.size; simp at this; omega); have hz30 : w3.cell? ⟨w.heap.size, 0, none⟩ = some (.int .i64 0) := (hb3.cell (p := ⟨w.heap.size, 0, none⟩) (by first | (simp; done) | (simp; omega))).trans (by first | assumption | (simp [go_sem, *]; done)); have hf30 : w3.frozen? ⟨w.heap.size, 0, none⟩ = false := (hb3.frozen (p := ⟨w.heap.size, 0, none⟩) (by first | (simp; done) | (simp; omega))).trans (by first | assumption | (simp [go_sem, *]; done)); have hz31 : w3.cell? ⟨w.heap.size, 1, none⟩ = some (.int .i64 0) := (hb3.cell (p := ⟨w.heap.size, 1, none⟩) (by first | (simp; done) | (simp; omega))).trans (by first | assumption | (simp [go_sem, *]; done)); have hf31 : w3.frozen? ⟨w.heap.size, 1, none⟩ = false := (hb3.frozen (p := ⟨w.heap.size, 1, none⟩) (by first | (simp; done) | (simp; omega))).trans (by first | assumption | (simp [go_sem, *]; done)); have hz32 : w3.cell? ⟨w.heap.size, 2, none⟩ = some (.string ⟨#[]⟩) := (hb3.cell (p := ⟨w.heap.size, 2, none⟩) (by first | (simp; done) | (simp; omega))).trans (by first | assumption | (simp [go_sem, *]; done)); have hf32 : w3.frozen? ⟨w.heap.size, 2, none⟩ = false := (hb3.frozen (p := ⟨w.heap.size, 2, none⟩) (by first | (simp; done) | (simp; omega))).trans (by first | assumption | (simp [go_sem, *]; done)); have hz33 : w3.cell? ⟨w.heap.size, 3, none⟩ = some (.bool false) := (hb3.cell (p := ⟨w.heap.size, 3, none⟩) (by first | (simp; done) | (simp; omega))).trans (by first | assumption | (simp [go_sem, *]; done)); have hf33 : w3.frozen? ⟨w.heap.size, 3, none⟩ = false := (hb3.frozen (p := ⟨w.heap.size, 3, none⟩) (by first | (simp; done) | (simp; omega))).trans (by first | assumption | (simp [go_sem, *]; done)); have hz34 : w3.cell? ⟨w.heap.size, 4, none⟩ = some (.string ⟨#[]⟩) := (hb3.cell (p := ⟨w.heap.size, 4, none⟩) (by first | (simp; done) | (simp; omega))).trans (by first | assumption | (simp [go_sem, *]; done)); have hf34 : w3.frozen? ⟨w.heap.size, 4, none⟩ = false := (hb3.frozen (p := ⟨w.heap.size, 4, none⟩) (by first | (simp; done) | (simp; omega))).trans (by first | assumption | (simp [go_sem, *]; done)); have hz35 : w3.cell? ⟨w.heap.size, 5, none⟩ = some (.string ⟨#[]⟩) := (hb3.cell (p := ⟨w.heap.size, 5, none⟩) (by first | (simp; done) | (simp; omega))).trans (by first | assumption | (simp [go_sem, *]; done)); have hf35 : w3.frozen? ⟨w.heap.size, 5, none⟩ = false := (hb3.frozen (p := ⟨w.heap.size, 5, none⟩) (by first | (simp; done) | (simp; omega))).trans (by first | assumption | (simp [go_sem, *]; done)); have hz36 : w3.cell? ⟨w.heap.size, 6, none⟩ = some (.string ⟨#[]⟩) := (hb3.cell (p := ⟨w.heap.size, 6, none⟩) (by first | (simp; done) | (simp; omega))).trans (by first | assumption | (simp [go_sem, *]; done)); have hf36 : w3.frozen? ⟨w.heap.size, 6, none⟩ = false := (hb3.frozen (p := ⟨w.heap.size, 6, none⟩) (by first | (simp; done) | (simp; omega))).trans (by first | assumption | (simp [go_sem, *]; done)); have hB3 : Hid (Below w.heap.size w w3) := Below.step (hB2.out.alloc hB2.out.size _) hb3; clear hb3 HP))
  refine bodyPost_ret (v := .tuple #[.agg #[.int .i64 io, .int .i64 iN, .string it, .bool ib, .string ic, .string im, .string id], .int .i64 0]) (by simp [results, Tryd.results26, go_sem, *]) rfl ⟨rfl, ?_⟩
  exact (((((((hB3.out).setCell (Nat.le_refl _) _).setCell (Nat.le_refl _) _).setCell (Nat.le_refl _) _).setCell (Nat.le_refl _) _).setCell (Nat.le_refl _) _).setCell (Nat.le_refl _) _).setCell (Nat.le_refl _) _

set_option maxRecDepth 100000 in
set_option maxHeartbeats 4000000 in
theorem parse_other (s A B P : ByteArray) (q : Bool) (op : Nat) (io iN : Int) (it : ByteArray) (ib : Bool) (ic im id : ByteArray) (hcmp : (P.toList == s.toList) = false) (w : World)
    (HQ : ∀ w' : World, Calls Tryd.prog 46 #[.string s, .string ⟨#[32]⟩] w' fun e w'' => e = .returned (.tuple #[.string A, .string B, .bool q]) ∧ Below w'.heap.size w' w'')
    (HO : ∀ w', Below w.heap.size w w' → Calls Tryd.prog 48 #[.string A] w' fun e w'' => e = .returned (.int .i64 (op : Int)) ∧ w'' = w')
    (HR : ∀ w', Below w.heap.size w w' → Calls Tryd.prog 47 #[.int .i64 (op : Int), .string B] w' fun e w'' => e = .returned (.agg #[.int .i64 io, .int .i64 iN, .string it, .bool ib, .string ic, .string im, .string id]) ∧ Below w'.heap.size w' w'')
    (HP : ∀ w', Below w.heap.size w w' → Calls Tryd.prog 15 #[.agg #[.int .i64 io, .int .i64 iN, .string it, .bool ib, .string ic, .string im, .string id]] w' fun e w'' => e = .returned (.tuple #[.string P, .int .i64 0]) ∧ Below w'.heap.size w' w'') :
    Calls Tryd.prog 26 #[.string s] w fun e w' => e = .returned (.tuple #[.agg #[.int .i64 0, .int .i64 0, .string ⟨#[]⟩, .bool false, .string ⟨#[]⟩, .string ⟨#[]⟩, .string ⟨#[]⟩], .int .i64 4]) ∧ Below w.heap.size w w' := by
  have HQ : Hid (∀ w' : World, _) := HQ
  have HO : Hid (∀ w' : World, _ → _) := HO
  have HR : Hid (∀ w' : World, _ → _) := HR
  have HP : Hid (∀ w' : World, _ → _) := HP
  have hne : (P.toList != s.toList) = !false := by rw [bne, hcmp]
  go_enter Tryd.func26, Tryd.ntmps26
  go_wp2_with (first
    | (go_at_call 46; refine (HQ.out _).mono ?_; rintro e w1 ⟨rfl, hb1⟩; have hs1 : w.heap.size < w1.heap.size := (by have := hb1.size; simp at this; omega); have hz10 : w1.cell? ⟨w.heap.size, 0, none⟩ = some (.int .i64 0) := (hb1.cell (p := ⟨w.heap.size, 0, none⟩) (by first | (simp; done) | (simp; omega))).trans (by first | assumption | (simp [go_sem, *]; done)); have hf10 : w1.frozen? ⟨w.heap.size, 0, none⟩ = false := (hb1.frozen (p := ⟨w.heap.size, 0, none⟩) (by first | (simp; done) | (simp; omega))).trans (by first | assumption | (simp [go_sem, *]; done)); have hz11 : w1.cell? ⟨w.heap.size, 1, none⟩ = some (.int .i64 0) := (hb1.cell (p := ⟨w.heap.size, 1, none⟩) (by first | (simp; done) | (simp; omega))).trans (by first | assumption | (simp [go_sem, *]; done)); have hf11 : w1.frozen? ⟨w.heap.size, 1, none⟩ = false := (hb1.frozen (p := ⟨w.heap.size, 1, none⟩) (by first | (simp; done) | (simp; omega))).trans (by first | assumption | (simp [go_sem, *]; done)); have hz12 : w1.cell? ⟨w.heap.size, 2, none⟩ = some (.string ⟨#[]⟩) := (hb1.cell (p := ⟨w.heap.size, 2, none⟩) (by first | (simp; done) | (simp; omega))).trans (by first | assumption | (simp [go_sem, *]; done)); have hf12 : w1.frozen? ⟨w.heap.size, 2, none⟩ = false := (hb1.frozen (p := ⟨w.heap.size, 2, none⟩) (by first | (simp; done) | (simp; omega))).trans (by first | assumption | (simp [go_sem, *]; done)); have hz13 : w1.cell? ⟨w.heap.size, 3, none⟩ = some (.bool false) := (hb1.cell (p := ⟨w.heap.size, 3, none⟩) (by first | (simp; done) | (simp; omega))).trans (by first | assumption | (simp [go_sem, *]; done)); have hf13 : w1.frozen? ⟨w.heap.size, 3, none⟩ = false := (hb1.frozen (p := ⟨w.heap.size, 3, none⟩) (by first | (simp; done) | (simp; omega))).trans (by first | assumption | (simp [go_sem, *]; done)); have hz14 : w1.cell? ⟨w.heap.size, 4, none⟩ = some (.string ⟨#[]⟩) := (hb1.cell (p := ⟨w.heap.size, 4, none⟩) (by first | (simp; done) | (simp; omega))).trans (by first | assumption | (simp [go_sem, *]; done)); have hf14 : w1.frozen? ⟨w.heap.size, 4, none⟩ = false := (hb1.frozen (p := ⟨w.heap.size, 4, none⟩) (by first | (simp; done) | (simp; omega))).trans (by first | assumption | (simp [go_sem, *]; done)); have hz15 : w1.cell? ⟨w.heap.size, 5, none⟩ = some (.string ⟨#[]⟩) := (hb1.cell (p := ⟨w.heap.size, 5, none⟩) (by first | (simp; done) | (simp; omega))).trans (by first | assumption | (simp [go_sem, *]; done)); have hf15 : w1.frozen? ⟨w.heap.size, 5, none⟩ = false := (hb1.frozen (p := ⟨w.heap.size, 5, none⟩) (by first | (simp; done) | (simp; omega))).trans (by first | assumption | (simp [go_sem, *]; done)); have hz16 : w1.cell? ⟨w.heap.size, 6, none⟩ = some (.string ⟨#[]⟩) := (hb1.cell (p := ⟨w.heap.size, 6, none⟩) (by first | (simp; done) | (simp; omega))).trans (by first | assumption | (simp [go_sem, *]; done)); have hf16 : w1.frozen? ⟨w.heap.size, 6, none⟩ = false := (hb1.frozen (p := ⟨w.heap.size, 6, none⟩) (by first | (simp; done) | (simp; omega))).trans (by first | assumption | (simp [go_sem, *]; done)); have hB1 : Hid (Below w.heap.size w w1) := Below.step ((Below.refl _ _).alloc (Nat.le_refl _) _) hb1; clear hb1 HQ)
    | (go_at_call 48; refine (HO.out _ hB1.out).mono ?_; rintro e w9 ⟨rfl, hw9⟩; rw [hw9]; clear hw9 HO)
    | (go_at_call 47; refine (HR.out _ hB1.out).mono ?_; rintro e w2 ⟨rfl, hb2⟩; have hs2 : w.heap.size < w2.heap.size := Nat.lt_of_lt_of_le hs1 hb2.size; have hz20 : w2.cell? ⟨w.heap.size, 0, none⟩ = some (.int .i64 0) := (hb2.cell (p := ⟨w.heap.size, 0, none⟩) (by first | (simp; done) | (simp; omega))).trans (by first | assumption | (simp [go_sem, *]; done)); have hf20 : w2.frozen? ⟨w.heap.size, 0, none⟩ = false := (hb2.frozen (p := ⟨w.heap.size, 0, none⟩) (by first | (simp; done) | (simp; omega))).trans (by first | assumption | (simp [go_sem, *]; done)); have hz21 : w2.cell? ⟨w.heap.size, 1, none⟩ = some (.int .i64 0) := (hb2.cell (p := ⟨w.heap.size, 1, none⟩) (by first | (simp; done) | (simp; omega))).trans (by first | assumption | (simp [go_sem, *]; done)); have hf21 : w2.frozen? ⟨w.heap.size, 1, none⟩ = false := (hb2.frozen (p := ⟨w.heap.size, 1, none⟩) (by first | (simp; done) | (simp; omega))).trans (by first | assumption | (simp [go_sem, *]; done)); have hz22 : w2.cell? ⟨w.heap.size, 2, none⟩ = some (.string ⟨#[]⟩) := (hb2.cell (p := ⟨w.heap.size, 2, none⟩) (by first | (simp; done) | (simp; omega))).trans (by first | assumption | (simp [go_sem, *]; done)); have hf22 : w2.frozen? ⟨w.heap.size, 2, none⟩ = false := (hb2.frozen (p := ⟨w.heap.size, 2, none⟩) (by first | (simp; done) | (simp; omega))).trans (by first | assumption | (simp [go_sem, *]; done)); have hz23 : w2.cell? ⟨w.heap.size, 3, none⟩ = some (.bool false) := (hb2.cell (p := ⟨w.heap.size, 3, none⟩) (by first | (simp; done) | (simp; omega))).trans (by first | assumption | (simp [go_sem, *]; done)); have hf23 : w2.frozen? ⟨w.heap.size, 3, none⟩ = false := (hb2.frozen (p := ⟨w.heap.size, 3, none⟩) (by first | (simp; done) | (simp; omega))).trans (by first | assumption | (simp [go_sem, *]; done)); have hz24 : w2.cell? ⟨w.heap.size, 4, none⟩ = some (.string ⟨#[]⟩) := (hb2.cell (p := ⟨w.heap.size, 4, none⟩) (by first | (simp; done) | (simp; omega))).trans (by first | assumption | (simp [go_sem, *]; done)); have hf24 : w2.frozen? ⟨w.heap.size, 4, none⟩ = false := (hb2.frozen (p := ⟨w.heap.size, 4, none⟩) (by first | (simp; done) | (simp; omega))).trans (by first | assumption | (simp [go_sem, *]; done)); have hz25 : w2.cell? ⟨w.heap.size, 5, none⟩ = some (.string ⟨#[]⟩) := (hb2.cell (p := ⟨w.heap.size, 5, none⟩) (by first | (simp; done) | (simp; omega))).trans (by first | assumption | (simp [go_sem, *]; done)); have hf25 : w2.frozen? ⟨w.heap.size, 5, none⟩ = false := (hb2.frozen (p := ⟨w.heap.size, 5, none⟩) (by first | (simp; done) | (simp; omega))).trans (by first | assumption | (simp [go_sem, *]; done)); have hz26 : w2.cell? ⟨w.heap.size, 6, none⟩ = some (.string ⟨#[]⟩) := (hb2.cell (p := ⟨w.heap.size, 6, none⟩) (by first | (simp; done) | (simp; omega))).trans (by first | assumption | (simp [go_sem, *]; done)); have hf26 : w2.frozen? ⟨w.heap.size, 6, none⟩ = false := (hb2.frozen (p := ⟨w.heap.size, 6, none⟩) (by first | (simp; done) | (simp; omega))).trans (by first | assumption | (simp [go_sem, *]; done)); have hB2 : Hid (Below w.heap.size w w2) := hB1.out.trans (hb2.mono hB1.out.size); clear hb2 HR)
    | (go_at_call 15; refine (HP.out _ (hB2.out.alloc hB2.out.size _)).mono ?_; rintro e w3 ⟨rfl, hb3⟩; have hr0 : w3.cell? ⟨w2.heap.size, 0, none⟩ = some (.int .i64 io) := (hb3.cell (p := ⟨w2.heap.size, 0, none⟩) (by simp)).trans (by simp [go_sem, *]); have hr1 : w3.cell? ⟨w2.heap.size, 1, none⟩ = some (.int .i64 iN) := (hb3.cell (p := ⟨w2.heap.size, 1, none⟩) (by simp)).trans (by simp [go_sem, *]); have hr2 : w3.cell? ⟨w2.heap.size, 2, none⟩ = some (.string it) := (hb3.cell (p := ⟨w2.heap.size, 2, none⟩) (by simp)).trans (by simp [go_sem, *]); have hr3 : w3.cell? ⟨w2.heap.size, 3, none⟩ = some (.bool ib) := (hb3.cell (p := ⟨w2.heap.size, 3, none⟩) (by simp)).trans (by simp [go_sem, *]); have hr4 : w3.cell? ⟨w2.heap.size, 4, none⟩ = some (.string ic) := (hb3.cell (p := ⟨w2.heap.size, 4, none⟩) (by simp)).trans (by simp [go_sem, *]); have hr5 : w3.cell? ⟨w2.heap.size, 5, none⟩ = some (.string im) := (hb3.cell (p := ⟨w2.heap.size, 5, none⟩) (by simp)).trans (by simp [go_sem, *]); have hr6 : w3.cell? ⟨w2.heap.size, 6, none⟩ = some (.string id) := (hb3.cell (p := ⟨w2.heap.size, 6, none⟩) (by simp)).trans (by simp [go_sem, *]); have hs3 : w.heap.size < w3.heap.size := (by have := hb3.size; simp at this; omega); have hz30 : w3.cell? ⟨w.heap.size, 0, none⟩ = some (.int .i64 0) := (hb3.cell (p := ⟨w.heap.size, 0, none⟩) (by first | (simp; done) | (simp; omega))).trans (by first | assumption | (simp [go_sem, *]; done)); have hf30 : w3.frozen? ⟨w.heap.size, 0, none⟩ = false := (hb3.frozen (p := ⟨w.heap.size, 0, none⟩) (by first | (simp; done) | (simp; omega))).trans (by first | assumption | (simp [go_sem, *]; done)); have hz31 : w3.cell? ⟨w.heap.size, 1, none⟩ = some (.int .i64 0) := (hb3.cell (p := ⟨w.heap.size, 1, none⟩) (by first | (simp; done) | (simp; omega))).trans (by first | assumption | (simp [go_sem, *]; done)); have hf31 : w3.frozen? ⟨w.heap.size, 1, none⟩ = false := (hb3.frozen (p := ⟨w.heap.size, 1, none⟩) (by first | (simp; done) | (simp; omega))).trans (by first | assumption | (simp [go_sem, *]; done)); have hz32 : w3.cell? ⟨w.heap.size, 2, none⟩ = some (.string ⟨#[]⟩) := (hb3.cell (p := ⟨w.heap.size, 2, none⟩) (by first | (simp; done) | (simp; omega))).trans (by first | assumption | (simp [go_sem, *]; done)); have hf32 : w3.frozen? ⟨w.heap.size, 2, none⟩ = false := (hb3.frozen (p := ⟨w.heap.size, 2, none⟩) (by first | (simp; done) | (simp; omega))).trans (by first | assumption | (simp [go_sem, *]; done)); have hz33 : w3.cell? ⟨w.heap.size, 3, none⟩ = some (.bool false) := (hb3.cell (p := ⟨w.heap.size, 3, none⟩) (by first | (simp; done) | (simp; omega))).trans (by first | assumption | (simp [go_sem, *]; done)); have hf33 : w3.frozen? ⟨w.heap.size, 3, none⟩ = false := (hb3.frozen (p := ⟨w.heap.size, 3, none⟩) (by first | (simp; done) | (simp; omega))).trans (by first | assumption | (simp [go_sem, *]; done)); have hz34 : w3.cell? ⟨w.heap.size, 4, none⟩ = some (.string ⟨#[]⟩) := (hb3.cell (p := ⟨w.heap.size, 4, none⟩) (by first | (simp; done) | (simp; omega))).trans (by first | assumption | (simp [go_sem, *]; done)); have hf34 : w3.frozen? ⟨w.heap.size, 4, none⟩ = false := (hb3.frozen (p := ⟨w.heap.size, 4, none⟩) (by first | (simp; done) | (simp; omega))).trans (by first | assumption | (simp [go_sem, *]; done)); have hz35 : w3.cell? ⟨w.heap.size, 5, none⟩ = some (.string ⟨#[]⟩) := (hb3.cell (p := ⟨w.heap.size, 5, none⟩) (by first | (simp; done) | (simp; omega))).trans (by first | assumption | (simp [go_sem, *]; done)); have hf35 : w3.frozen? ⟨w.heap.size, 5, none⟩ = false := (hb3.frozen (p := ⟨w.heap.size, 5, none⟩) (by first | (simp; done) | (simp; omega))).trans (by first | assumption | (simp [go_sem, *]; done)); have hz36 : w3.cell? ⟨w.heap.size, 6, none⟩ = some (.string ⟨#[]⟩) := (hb3.cell (p := ⟨w.heap.size, 6, none⟩) (by first | (simp; done) | (simp; omega))).trans (by first | assumption | (simp [go_sem, *]; done)); have hf36 : w3.frozen? ⟨w.heap.size, 6, none⟩ = false := (hb3.frozen (p := ⟨w.heap.size, 6, none⟩) (by first | (simp; done) | (simp; omega))).trans (by first | assumption | (simp [go_sem, *]; done)); have hB3 : Hid (Below w.heap.size w w3) := Below.step (hB2.out.alloc hB2.out.size _) hb3; clear hb3 HP))
  refine bodyPost_ret (v := .tuple #[.agg #[.int .i64 0, .int .i64 0, .string ⟨#[]⟩, .bool false, .string ⟨#[]⟩, .string ⟨#[]⟩, .string ⟨#[]⟩], .int .i64 4]) (by simp [results, Tryd.results26, go_sem, *]) rfl ⟨rfl, ?_⟩
  exact (((((((hB3.out).setCell (Nat.le_refl _) _).setCell (Nat.le_refl _) _).setCell (Nat.le_refl _) _).setCell (Nat.le_refl _) _).setCell (Nat.le_refl _) _).setCell (Nat.le_refl _) _).setCell (Nat.le_refl _) _

set_option maxRecDepth 100000 in
set_option maxHeartbeats 4000000 in
theorem parse_bad (s A B P : ByteArray) (q : Bool) (op : Nat) (io iN : Int) (it : ByteArray) (ib : Bool) (ic im id : ByteArray) (w : World)
    (HQ : ∀ w' : World, Calls Tryd.prog 46 #[.string s, .string ⟨#[32]⟩] w' fun e w'' => e = .returned (.tuple #[.string A, .string B, .bool q]) ∧ Below w'.heap.size w' w'')
    (HO : ∀ w', Below w.heap.size w w' → Calls Tryd.prog 48 #[.string A] w' fun e w'' => e = .returned (.int .i64 (op : Int)) ∧ w'' = w')
    (HR : ∀ w', Below w.heap.size w w' → Calls Tryd.prog 47 #[.int .i64 (op : Int), .string B] w' fun e w'' => e = .returned (.agg #[.int .i64 io, .int .i64 iN, .string it, .bool ib, .string ic, .string im, .string id]) ∧ Below w'.heap.size w' w'')
    (HP : ∀ w', Below w.heap.size w w' → Calls Tryd.prog 15 #[.agg #[.int .i64 io, .int .i64 iN, .string it, .bool ib, .string ic, .string im, .string id]] w' fun e w'' => e = .returned (.tuple #[.string P, .int .i64 1]) ∧ Below w'.heap.size w' w'') :
    Calls Tryd.prog 26 #[.string s] w fun e w' => e = .returned (.tuple #[.agg #[.int .i64 0, .int .i64 0, .string ⟨#[]⟩, .bool false, .string ⟨#[]⟩, .string ⟨#[]⟩, .string ⟨#[]⟩], .int .i64 4]) ∧ Below w.heap.size w w' := by
  have HQ : Hid (∀ w' : World, _) := HQ
  have HO : Hid (∀ w' : World, _ → _) := HO
  have HR : Hid (∀ w' : World, _ → _) := HR
  have HP : Hid (∀ w' : World, _ → _) := HP

  go_enter Tryd.func26, Tryd.ntmps26
  go_wp2_with (first
    | (go_at_call 46; refine (HQ.out _).mono ?_; rintro e w1 ⟨rfl, hb1⟩; have hs1 : w.heap.size < w1.heap.size := (by have := hb1.size; simp at this; omega); have hz10 : w1.cell? ⟨w.heap.size, 0, none⟩ = some (.int .i64 0) := (hb1.cell (p := ⟨w.heap.size, 0, none⟩) (by first | (simp; done) | (simp; omega))).trans (by first | assumption | (simp [go_sem, *]; done)); have hf10 : w1.frozen? ⟨w.heap.size, 0, none⟩ = false := (hb1.frozen (p := ⟨w.heap.size, 0, none⟩) (by first | (simp; done) | (simp; omega))).trans (by first | assumption | (simp [go_sem, *]; done)); have hz11 : w1.cell? ⟨w.heap.size, 1, none⟩ = some (.int .i64 0) := (hb1.cell (p := ⟨w.heap.size, 1, none⟩) (by first | (simp; done) | (simp; omega))).trans (by first | assumption | (simp [go_sem, *]; done)); have hf11 : w1.frozen? ⟨w.heap.size, 1, none⟩ = false := (hb1.frozen (p := ⟨w.heap.size, 1, none⟩) (by first | (simp; done) | (simp; omega))).trans (by first | assumption | (simp [go_sem, *]; done)); have hz12 : w1.cell? ⟨w.heap.size, 2, none⟩ = some (.string ⟨#[]⟩) := (hb1.cell (p := ⟨w.heap.size, 2, none⟩) (by first | (simp; done) | (simp; omega))).trans (by first | assumption | (simp [go_sem, *]; done)); have hf12 : w1.frozen? ⟨w.heap.size, 2, none⟩ = false := (hb1.frozen (p := ⟨w.heap.size, 2, none⟩) (by first | (simp; done) | (simp; omega))).trans (by first | assumption | (simp [go_sem, *]; done)); have hz13 : w1.cell? ⟨w.heap.size, 3, none⟩ = some (.bool false) := (hb1.cell (p := ⟨w.heap.size, 3, none⟩) (by first | (simp; done) | (simp; omega))).trans (by first | assumption | (simp [go_sem, *]; done)); have hf13 : w1.frozen? ⟨w.heap.size, 3, none⟩ = false := (hb1.frozen (p := ⟨w.heap.size, 3, none⟩) (by first | (simp; done) | (simp; omega))).trans (by first | assumption | (simp [go_sem, *]; done)); have hz14 : w1.cell? ⟨w.heap.size, 4, none⟩ = some (.string ⟨#[]⟩) := (hb1.cell (p := ⟨w.heap.size, 4, none⟩) (by first | (simp; done) | (simp; omega))).trans (by first | assumption | (simp [go_sem, *]; done)); have hf14 : w1.frozen? ⟨w.heap.size, 4, none⟩ = false := (hb1.frozen (p := ⟨w.heap.size, 4, none⟩) (by first | (simp; done) | (simp; omega))).trans (by first | assumption | (simp [go_sem, *]; done)); have hz15 : w1.cell? ⟨w.heap.size, 5, none⟩ = some (.string ⟨#[]⟩) := (hb1.cell (p := ⟨w.heap.size, 5, none⟩) (by first | (simp; done) | (simp; omega))).trans (by first | assumption | (simp [go_sem, *]; done)); have hf15 : w1.frozen? ⟨w.heap.size, 5, none⟩ = false := (hb1.frozen (p := ⟨w.heap.size, 5, none⟩) (by first | (simp; done) | (simp; omega))).trans (by first | assumption | (simp [go_sem, *]; done)); have hz16 : w1.cell? ⟨w.heap.size, 6, none⟩ = some (.string ⟨#[]⟩) := (hb1.cell (p := ⟨w.heap.size, 6, none⟩) (by first | (simp; done) | (simp; omega))).trans (by first | assumption | (simp [go_sem, *]; done)); have hf16 : w1.frozen? ⟨w.heap.size, 6, none⟩ = false := (hb1.frozen (p := ⟨w.heap.size, 6, none⟩) (by first | (simp; done) | (simp; omega))).trans (by first | assumption | (simp [go_sem, *]; done)); have hB1 : Hid (Below w.heap.size w w1) := Below.step ((Below.refl _ _).alloc (Nat.le_refl _) _) hb1; clear hb1 HQ)
    | (go_at_call 48; refine (HO.out _ hB1.out).mono ?_; rintro e w9 ⟨rfl, hw9⟩; rw [hw9]; clear hw9 HO)
    | (go_at_call 47; refine (HR.out _ hB1.out).mono ?_; rintro e w2 ⟨rfl, hb2⟩; have hs2 : w.heap.size < w2.heap.size := Nat.lt_of_lt_of_le hs1 hb2.size; have hz20 : w2.cell? ⟨w.heap.size, 0, none⟩ = some (.int .i64 0) := (hb2.cell (p := ⟨w.heap.size, 0, none⟩) (by first | (simp; done) | (simp; omega))).trans (by first | assumption | (simp [go_sem, *]; done)); have hf20 : w2.frozen? ⟨w.heap.size, 0, none⟩ = false := (hb2.frozen (p := ⟨w.heap.size, 0, none⟩) (by first | (simp; done) | (simp; omega))).trans (by first | assumption | (simp [go_sem, *]; done)); have hz21 : w2.cell? ⟨w.heap.size, 1, none⟩ = some (.int .i64 0) := (hb2.cell (p := ⟨w.heap.size, 1, none⟩) (by first | (simp; done) | (simp; omega))).trans (by first | assumption | (simp [go_sem, *]; done)); have hf21 : w2.frozen? ⟨w.heap.size, 1, none⟩ = false := (hb2.frozen (p := ⟨w.heap.size, 1, none⟩) (by first | (simp; done) | (simp; omega))).trans (by first | assumption | (simp [go_sem, *]; done)); have hz22 : w2.cell? ⟨w.heap.size, 2, none⟩ = some (.string ⟨#[]⟩) := (hb2.cell (p := ⟨w.heap.size, 2, none⟩) (by first | (simp; done) | (simp; omega))).trans (by first | assumption | (simp [go_sem, *]; done)); have hf22 : w2.frozen? ⟨w.heap.size, 2, none⟩ = false := (hb2.frozen (p := ⟨w.heap.size, 2, none⟩) (by first | (simp; done) | (simp; omega))).trans (by first | assumption | (simp [go_sem, *]; done)); have hz23 : w2.cell? ⟨w.heap.size, 3, none⟩ = some (.bool false) := (hb2.cell (p := ⟨w.heap.size, 3, none⟩) (by first | (simp; done) | (simp; omega))).trans (by first | assumption | (simp [go_sem, *]; done)); have hf23 : w2.frozen? ⟨w.heap.size, 3, none⟩ = false := (hb2.frozen (p := ⟨w.heap.size, 3, none⟩) (by first | (simp; done) | (simp; omega))).trans (by first | assumption | (simp [go_sem, *]; done)); have hz24 : w2.cell? ⟨w.heap.size, 4, none⟩ = some (.string ⟨#[]⟩) := (hb2.cell (p := ⟨w.heap.size, 4, none⟩) (by first | (simp; done) | (simp; omega))).trans (by first | assumption | (simp [go_sem, *]; done)); have hf24 : w2.frozen? ⟨w.heap.size, 4, none⟩ = false := (hb2.frozen (p := ⟨w.heap.size, 4, none⟩) (by first | (simp; done) | (simp; omega))).trans (by first | assumption | (simp [go_sem, *]; done)); have hz25 : w2.cell? ⟨w.heap.size, 5, none⟩ = some (.string ⟨#[]⟩) := (hb2.cell (p := ⟨w.heap.size, 5, none⟩) (by first | (simp; done) | (simp; omega))).trans (by first | assumption | (simp [go_sem, *]; done)); have hf25 : w2.frozen? ⟨w.heap.size, 5, none⟩ = false := (hb2.frozen (p := ⟨w.heap.size, 5, none⟩) (by first | (simp; done) | (simp; omega))).trans (by first | assumption | (simp [go_sem, *]; done)); have hz26 : w2.cell? ⟨w.heap.size, 6, none⟩ = some (.string ⟨#[]⟩) := (hb2.cell (p := ⟨w.heap.size, 6, none⟩) (by first | (simp; done) | (simp; omega))).trans (by first | assumption | (simp [go_sem, *]; done)); have hf26 : w2.frozen? ⟨w.heap.size, 6, none⟩ = false := (hb2.frozen (p := ⟨w.heap.size, 6, none⟩) (by first | (simp; done) | (simp; omega))).trans (by first | assumption | (simp [go_sem, *]; done)); have hB2 : Hid (Below w.heap.size w w2) := hB1.out.trans (hb2.mono hB1.out.size); clear hb2 HR)
    | (go_at_call 15; refine (HP.out _ (hB2.out.alloc hB2.out.size _)).mono ?_; rintro e w3 ⟨rfl, hb3⟩; have hr0 : w3.cell? ⟨w2.heap.size, 0, none⟩ = some (.int .i64 io) := (hb3.cell (p := ⟨w2.heap.size, 0, none⟩) (by simp)).trans (by simp [go_sem, *]); have hr1 : w3.cell? ⟨w2.heap.size, 1, none⟩ = some (.int .i64 iN) := (hb3.cell (p := ⟨w2.heap.size, 1, none⟩) (by simp)).trans (by simp [go_sem, *]); have hr2 : w3.cell? ⟨w2.heap.size, 2, none⟩ = some (.string it) := (hb3.cell (p := ⟨w2.heap.size, 2, none⟩) (by simp)).trans (by simp [go_sem, *]); have hr3 : w3.cell? ⟨w2.heap.size, 3, none⟩ = some (.bool ib) := (hb3.cell (p := ⟨w2.heap.size, 3, none⟩) (by simp)).trans (by simp [go_sem, *]); have hr4 : w3.cell? ⟨w2.heap.size, 4, none⟩ = some (.string ic) := (hb3.cell (p := ⟨w2.heap.size, 4, none⟩) (by simp)).trans (by simp [go_sem, *]); have hr5 : w3.cell? ⟨w2.heap.size, 5, none⟩ = some (.string im) := (hb3.cell (p := ⟨w2.heap.size, 5, none⟩) (by simp)).trans (by simp [go_sem, *]); have hr6 : w3.cell? ⟨w2.heap.size, 6, none⟩ = some (.string id) := (hb3.cell (p := ⟨w2.heap.size, 6, none⟩) (by simp)).trans (by simp [go_sem, *]); have hs3 : w.heap.size < w3.heap.size := (by have := hb3.size; simp at this; omega); have hz30 : w3.cell? ⟨w.heap.size, 0, none⟩ = some (.int .i64 0) := (hb3.cell (p := ⟨w.heap.size, 0, none⟩) (by first | (simp; done) | (simp; omega))).trans (by first | assumption | (simp [go_sem, *]; done)); have hf30 : w3.frozen? ⟨w.heap.size, 0, none⟩ = false := (hb3.frozen (p := ⟨w.heap.size, 0, none⟩) (by first | (simp; done) | (simp; omega))).trans (by first | assumption | (simp [go_sem, *]; done)); have hz31 : w3.cell? ⟨w.heap.size, 1, none⟩ = some (.int .i64 0) := (hb3.cell (p := ⟨w.heap.size, 1, none⟩) (by first | (simp; done) | (simp; omega))).trans (by first | assumption | (simp [go_sem, *]; done)); have hf31 : w3.frozen? ⟨w.heap.size, 1, none⟩ = false := (hb3.frozen (p := ⟨w.heap.size, 1, none⟩) (by first | (simp; done) | (simp; omega))).trans (by first | assumption | (simp [go_sem, *]; done)); have hz32 : w3.cell? ⟨w.heap.size, 2, none⟩ = some (.string ⟨#[]⟩) := (hb3.cell (p := ⟨w.heap.size, 2, none⟩) (by first | (simp; done) | (simp; omega))).trans (by first | assumption | (simp [go_sem, *]; done)); have hf32 : w3.frozen? ⟨w.heap.size, 2, none⟩ = false := (hb3.frozen (p := ⟨w.heap.size, 2, none⟩) (by first | (simp; done) | (simp; omega))).trans (by first | assumption | (simp [go_sem, *]; done)); have hz33 : w3.cell? ⟨w.heap.size, 3, none⟩ = some (.bool false) := (hb3.cell (p := ⟨w.heap.size, 3, none⟩) (by first | (simp; done) | (simp; omega))).trans (by first | assumption | (simp [go_sem, *]; done)); have hf33 : w3.frozen? ⟨w.heap.size, 3, none⟩ = false := (hb3.frozen (p := ⟨w.heap.size, 3, none⟩) (by first | (simp; done) | (simp; omega))).trans (by first | assumption | (simp [go_sem, *]; done)); have hz34 : w3.cell? ⟨w.heap.size, 4, none⟩ = some (.string ⟨#[]⟩) := (hb3.cell (p := ⟨w.heap.size, 4, none⟩) (by first | (simp; done) | (simp; omega))).trans (by first | assumption | (simp [go_sem, *]; done)); have hf34 : w3.frozen? ⟨w.heap.size, 4, none⟩ = false := (hb3.frozen (p := ⟨w.heap.size, 4, none⟩) (by first | (simp; done) | (simp; omega))).trans (by first | assumption | (simp [go_sem, *]; done)); have hz35 : w3.cell? ⟨w.heap.size, 5, none⟩ = some (.string ⟨#[]⟩) := (hb3.cell (p := ⟨w.heap.size, 5, none⟩) (by first | (simp; done) | (simp; omega))).trans (by first | assumption | (simp [go_sem, *]; done)); have hf35 : w3.frozen? ⟨w.heap.size, 5, none⟩ = false := (hb3.frozen (p := ⟨w.heap.size, 5, none⟩) (by first | (simp; done) | (simp; omega))).trans (by first | assumption | (simp [go_sem, *]; done)); have hz36 : w3.cell? ⟨w.heap.size, 6, none⟩ = some (.string ⟨#[]⟩) := (hb3.cell (p := ⟨w.heap.size, 6, none⟩) (by first | (simp; done) | (simp; omega))).trans (by first | assumption | (simp [go_sem, *]; done)); have hf36 : w3.frozen? ⟨w.heap.size, 6, none⟩ = false := (hb3.frozen (p := ⟨w.heap.size, 6, none⟩) (by first | (simp; done) | (simp; omega))).trans (by first | assumption | (simp [go_sem, *]; done)); have hB3 : Hid (Below w.heap.size w w3) := Below.step (hB2.out.alloc hB2.out.size _) hb3; clear hb3 HP))
  refine bodyPost_ret (v := .tuple #[.agg #[.int .i64 0, .int .i64 0, .string ⟨#[]⟩, .bool false, .string ⟨#[]⟩, .string ⟨#[]⟩, .string ⟨#[]⟩], .int .i64 4]) (by simp [results, Tryd.results26, go_sem, *]) rfl ⟨rfl, ?_⟩
  exact (((((((hB3.out).setCell (Nat.le_refl _) _).setCell (Nat.le_refl _) _).setCell (Nat.le_refl _) _).setCell (Nat.le_refl _) _).setCell (Nat.le_refl _) _).setCell (Nat.le_refl _) _).setCell (Nat.le_refl _) _

/-- Parse of package code -/
theorem oparse_any (s : ByteArray) (hs : s.size ≤ 140737488351232) (w : World) (hG : GIn w) (hW : WordsRow w) (hE : EIn w) : Calls Tryd.prog 26 #[.string s] w fun e w' => e = .returned (outI (ownP s.data.toList)) ∧ Below w.heap.size w w' := by
  obtain ⟨q, HQ⟩ := cut_any s (by unfold maxLen; omega)
  have hsB : (⟨(cutB s.data.toList).toArray⟩ : ByteArray).size ≤ 140737488351232 := Nat.le_trans (piece_size s _ (cutB_len _)) hs
  have HO : ∀ w', Below w.heap.size w w' → Calls Tryd.prog 48 #[.string ⟨(cutA s.data.toList).toArray⟩] w' fun e w'' => e = .returned (.int .i64 ((opOf (cutA s.data.toList) : Nat) : Int)) ∧ w'' = w' := fun w' hb => opOf_any ⟨(cutA s.data.toList).toArray⟩ w' (hW.keep hb)
  have HR : ∀ w', Below w.heap.size w w' → Calls Tryd.prog 47 #[.int .i64 ((opOf (cutA s.data.toList) : Nat) : Int), .string ⟨(cutB s.data.toList).toArray⟩] w' fun e w'' => e = .returned (insV (ownR s.data.toList)) ∧ Below w'.heap.size w' w'' := fun w' hb => readOp_any _ ⟨(cutB s.data.toList).toArray⟩ hsB w' (hE.keep hb)
  have hio := rdI_ok ((opOf (cutA s.data.toList) : Nat) : Int) ⟨(cutB s.data.toList).toArray⟩ (by unfold maxLen; omega)
  have hown : ownP s.data.toList = if ickI (ownR s.data.toList) = 0 ∧ prtI (ownR s.data.toList) = s.data.toList then some (ownR s.data.toList) else none := rfl
  have hrd : rdI ((opOf (cutA s.data.toList) : Nat) : Int) (⟨(cutB s.data.toList).toArray⟩ : ByteArray).data.toList = ownR s.data.toList := rfl
  rw [hrd] at hio
  obtain ⟨⟨n1, n2⟩, k1, k2, k3, k4⟩ := hio
  have HP := fun w' (hb : Below w.heap.size w w') => oprint_any (ownR s.data.toList).op (ownR s.data.toList).n n1 n2 (ownR s.data.toList).t (ownR s.data.toList).b (ownR s.data.toList).c (ownR s.data.toList).m (ownR s.data.toList).d k1 k2 k3 k4 w' (hG.keep hb)
  clear hrd
  generalize ownR s.data.toList = i at *
  have hpr : (⟨(prtI i).toArray⟩ : ByteArray).toList = prtI i := by rw [Lib.toList_data]
  have hst : s.toList = s.data.toList := Lib.toList_data s
  rcases ick_01 i.op i.n i.t i.b i.c i.m i.d with hi | hi
  · simp only [hi] at HP
    by_cases he : prtI i = s.data.toList
    · rw [hown, if_pos ⟨hi, he⟩]
      exact parse_yes s _ _ ⟨(prtI i).toArray⟩ q _ i.op i.n i.t i.b i.c i.m i.d (by rw [hpr, hst, he]; simp) w HQ HO HR HP
    · rw [hown, if_neg (fun h => he h.2)]
      exact parse_other s _ _ ⟨(prtI i).toArray⟩ q _ i.op i.n i.t i.b i.c i.m i.d (by rw [hpr, hst]; simpa using he) w HQ HO HR HP
  · simp only [hi] at HP
    rw [hown, if_neg (fun h => absurd (h.1.symm.trans hi) (by decide))]
    exact parse_bad s _ _ ⟨(prtI i).toArray⟩ q _ i.op i.n i.t i.b i.c i.m i.d w HQ HO HR HP
end Go.Proofs.YtijlipllahfakaaDoor

namespace Go.Proofs.YtijlipllahfakaaDoor
open Go.RowKit

set_option maxRecDepth 100000 in
set_option maxHeartbeats 4000000 in
theorem print_0 (o : Nat) (n : Int) (ho1 : 1 ≤ o) (ho2 : o ≤ 40) (hk : opdI o = 0) (t : ByteArray) (b : Bool) (c m d : ByteArray) (ht : t.size ≤ maxLen) (hc : c.size ≤ maxLen) (hm : m.size ≤ maxLen) (hd : d.size ≤ maxLen) (h : ickE o n t b c m d = 0) (w : World) : Calls Tryd.prog 16 #[.agg #[.int .i64 (o : Int), .int .i64 n, .string t, .bool b, .string c, .string m, .string d]] w fun e w' => e = .returned (.tuple #[.string ⟨(prtL o n t b c m d).toArray⟩, .int .i64 0]) ∧ Below w.heap.size w w' := by
  have HC := rCheck_any o n t b c m d ht hc hm hd
  rw [h] at HC
  have HC : Hid (∀ w, _) := HC
  have HW : Hid (∀ w, _) := rWords_row
  have HO := rOperand_any o
  rw [hk] at HO
  have HO : Hid (∀ w, _) := HO
  have hts := ick_type h
  obtain ⟨x, hx⟩ : ∃ x, wordsL[o]? = some x := ⟨_, List.getElem?_eq_getElem (by rw [words_size]; omega)⟩
  have hxw : wordL o = x := by rw [wordL, List.getD_eq_getElem?_getD, show (o : Int).toNat = o by omega, hx]; rfl
  have hxl := word_len o
  rw [hxw] at hxl
  obtain ⟨X, hX⟩ : ∃ X : ByteArray, X = ⟨x.toArray⟩ := ⟨_, rfl⟩
  have hXs : X.size ≤ 20 := by rw [hX]; simpa [ByteArray.size] using hxl
  have HP : Hid (prtL o n t b c m d = X.data.toList ++ restL 0 n t.data.toList (rtxL b c.data.toList m.data.toList d.data.toList)) := by rw [Hid, prtL, if_pos h, hk, hxw, hX]
  have HX : Hid (∀ w' : World, ∀ p, (∀ (i : Nat) (x : List UInt8), wordsL[i]? = some x → w'.cell? ⟨p, i, none⟩ = some (.string ⟨x.toArray⟩)) → w'.cell? ⟨p, o, none⟩ = some (.string X)) := fun w' p hh => by rw [hX]; exact hh o x hx
  have HR : Hid (prtL o n t b c m d = X.data.toList) := by rw [Hid, HP.out]; simp [restL]
  clear h hk hx hxw hxl hX HP hc hm hd ht
  go_enter Tryd.func16, Tryd.ntmps16
  go_wp2_with (go_at_call 14; refine (HC.out _).mono ?_; rintro e w1 ⟨rfl, hb1⟩; have hs1 : w.heap.size < w1.heap.size := (by have := hb1.size; simp at this; omega); have hc10 : w1.cell? ⟨w.heap.size, 0, none⟩ = some (.int .i64 (o : Int)) := (hb1.cell (p := ⟨w.heap.size, 0, none⟩) (by simp [*])).trans (by simp [go_sem, *]); have hB1 : Hid (Below w.heap.size w w1) := Below.step ((Below.refl _ _).alloc (Nat.le_refl _) _) hb1; clear hb1 HC)
  go_region_with (go_at_call 29; refine (HW.out _).mono ?_; rintro e w2 ⟨rfl, hb2, hcw⟩; have hcx : w2.cell? ⟨w1.heap.size, o, none⟩ = some (.string X) := HX.out _ _ hcw; have hs2 : w.heap.size < w2.heap.size := (by have := hb2.size; simp at this; omega); have hc20 : w2.cell? ⟨w.heap.size, 0, none⟩ = some (.int .i64 (o : Int)) := (hb2.cell (p := ⟨w.heap.size, 0, none⟩) (by simp [*])).trans (by simp [go_sem, *]); have hB2 : Hid (Below w.heap.size w w2) := Below.step hB1.out.drew hb2; clear hb2 hcw)
  all_goals go_wp2_with (first
    | (go_at_call 12; refine (HO.out _).mono ?_; rintro e w9 ⟨rfl, hw9⟩; rw [hw9]; clear hw9 HO))
  all_goals refine bodyPost_ret (v := .tuple #[.string X, .int .i64 0]) (by simp [results, Tryd.results16, go_sem, *]) rfl ⟨by rw [HR.out], hB2.out⟩

set_option maxRecDepth 100000 in
set_option maxHeartbeats 4000000 in
theorem print_1 (o : Nat) (n : Int) (hn1 : -9223372036854775808 ≤ n) (hn2 : n ≤ 9223372036854775807) (ho1 : 1 ≤ o) (ho2 : o ≤ 40) (hk : opdI o = 1) (t : ByteArray) (b : Bool) (c m d : ByteArray) (ht : t.size ≤ maxLen) (hc : c.size ≤ maxLen) (hm : m.size ≤ maxLen) (hd : d.size ≤ maxLen) (h : ickE o n t b c m d = 0) (w : World) : Calls Tryd.prog 16 #[.agg #[.int .i64 (o : Int), .int .i64 n, .string t, .bool b, .string c, .string m, .string d]] w fun e w' => e = .returned (.tuple #[.string ⟨(prtL o n t b c m d).toArray⟩, .int .i64 0]) ∧ Below w.heap.size w w' := by
  have HC := rCheck_any o n t b c m d ht hc hm hd
  rw [h] at HC
  have HC : Hid (∀ w, _) := HC
  have HW : Hid (∀ w, _) := rWords_row
  have HO := rOperand_any o
  rw [hk] at HO
  have HO : Hid (∀ w, _) := HO
  have hts := ick_type h
  obtain ⟨x, hx⟩ : ∃ x, wordsL[o]? = some x := ⟨_, List.getElem?_eq_getElem (by rw [words_size]; omega)⟩
  have hxw : wordL o = x := by rw [wordL, List.getD_eq_getElem?_getD, show (o : Int).toNat = o by omega, hx]; rfl
  have hxl := word_len o
  rw [hxw] at hxl
  obtain ⟨X, hX⟩ : ∃ X : ByteArray, X = ⟨x.toArray⟩ := ⟨_, rfl⟩
  have hXs : X.size ≤ 20 := by rw [hX]; simpa [ByteArray.size] using hxl
  have HP : Hid (prtL o n t b c m d = X.data.toList ++ restL 1 n t.data.toList (rtxL b c.data.toList m.data.toList d.data.toList)) := by rw [Hid, prtL, if_pos h, hk, hxw, hX]
  have HX : Hid (∀ w' : World, ∀ p, (∀ (i : Nat) (x : List UInt8), wordsL[i]? = some x → w'.cell? ⟨p, i, none⟩ = some (.string ⟨x.toArray⟩)) → w'.cell? ⟨p, o, none⟩ = some (.string X)) := fun w' p hh => by rw [hX]; exact hh o x hx
  have HD : Hid (∀ w, _) := rDecimal_any n hn1 hn2
  obtain ⟨D, hD⟩ : ∃ D : ByteArray, D = ⟨(Lib.itoa n).toArray⟩ := ⟨_, rfl⟩
  have hDs : D.size ≤ 21 := by rw [hD]; exact itoa_size n hn1 hn2
  rw [← hD] at HD
  have HR : Hid (prtL o n t b c m d = (X ++ ⟨#[32]⟩ ++ D : ByteArray).data.toList) := by rw [Hid, HP.out, hD]; simp [restL, ByteArray.data_append]
  clear h hk hx hxw hxl hX HP hc hm hd ht hD
  go_enter Tryd.func16, Tryd.ntmps16
  go_wp2_with (go_at_call 14; refine (HC.out _).mono ?_; rintro e w1 ⟨rfl, hb1⟩; have hs1 : w.heap.size < w1.heap.size := (by have := hb1.size; simp at this; omega); have hc10 : w1.cell? ⟨w.heap.size, 0, none⟩ = some (.int .i64 (o : Int)) := (hb1.cell (p := ⟨w.heap.size, 0, none⟩) (by simp [*])).trans (by simp [go_sem, *]); have hc11 : w1.cell? ⟨w.heap.size, 1, none⟩ = some (.int .i64 n) := (hb1.cell (p := ⟨w.heap.size, 1, none⟩) (by simp [*])).trans (by simp [go_sem, *]); have hB1 : Hid (Below w.heap.size w w1) := Below.step ((Below.refl _ _).alloc (Nat.le_refl _) _) hb1; clear hb1 HC)
  go_region_with (go_at_call 29; refine (HW.out _).mono ?_; rintro e w2 ⟨rfl, hb2, hcw⟩; have hcx : w2.cell? ⟨w1.heap.size, o, none⟩ = some (.string X) := HX.out _ _ hcw; have hs2 : w.heap.size < w2.heap.size := (by have := hb2.size; simp at this; omega); have hc20 : w2.cell? ⟨w.heap.size, 0, none⟩ = some (.int .i64 (o : Int)) := (hb2.cell (p := ⟨w.heap.size, 0, none⟩) (by simp [*])).trans (by simp [go_sem, *]); have hc21 : w2.cell? ⟨w.heap.size, 1, none⟩ = some (.int .i64 n) := (hb2.cell (p := ⟨w.heap.size, 1, none⟩) (by simp [*])).trans (by simp [go_sem, *]); have hB2 : Hid (Below w.heap.size w w2) := Below.step hB1.out.drew hb2; clear hb2 hcw)
  all_goals go_wp2_with (first
    | (go_at_call 12; refine (HO.out _).mono ?_; rintro e w9 ⟨rfl, hw9⟩; rw [hw9]; clear hw9 HO)
    | (go_at_call 37; refine (HD.out _).mono ?_; rintro e w3 ⟨rfl, hb3⟩; have hB3 : Hid (Below w.heap.size w w3) := Below.step hB2.out hb3; clear hb3 HD))
  all_goals refine bodyPost_ret (v := .tuple #[.string (X ++ ⟨#[32]⟩ ++ D), .int .i64 0]) (by simp [results, Tryd.results16, go_sem, *]) rfl ⟨by rw [HR.out], hB3.out⟩

set_option maxRecDepth 100000 in
set_option maxHeartbeats 4000000 in
theorem print_2 (o : Nat) (n : Int) (hn1 : -9223372036854775808 ≤ n) (hn2 : n ≤ 9223372036854775807) (ho1 : 1 ≤ o) (ho2 : o ≤ 40) (hk : opdI o = 2) (t : ByteArray) (b : Bool) (c m d : ByteArray) (ht : t.size ≤ maxLen) (hc : c.size ≤ maxLen) (hm : m.size ≤ maxLen) (hd : d.size ≤ maxLen) (h : ickE o n t b c m d = 0) (w : World) : Calls Tryd.prog 16 #[.agg #[.int .i64 (o : Int), .int .i64 n, .string t, .bool b, .string c, .string m, .string d]] w fun e w' => e = .returned (.tuple #[.string ⟨(prtL o n t b c m d).toArray⟩, .int .i64 0]) ∧ Below w.heap.size w w' := by
  have HC := rCheck_any o n t b c m d ht hc hm hd
  rw [h] at HC
  have HC : Hid (∀ w, _) := HC
  have HW : Hid (∀ w, _) := rWords_row
  have HO := rOperand_any o
  rw [hk] at HO
  have HO : Hid (∀ w, _) := HO
  have hts := ick_type h
  obtain ⟨x, hx⟩ : ∃ x, wordsL[o]? = some x := ⟨_, List.getElem?_eq_getElem (by rw [words_size]; omega)⟩
  have hxw : wordL o = x := by rw [wordL, List.getD_eq_getElem?_getD, show (o : Int).toNat = o by omega, hx]; rfl
  have hxl := word_len o
  rw [hxw] at hxl
  obtain ⟨X, hX⟩ : ∃ X : ByteArray, X = ⟨x.toArray⟩ := ⟨_, rfl⟩
  have hXs : X.size ≤ 20 := by rw [hX]; simpa [ByteArray.size] using hxl
  have HP : Hid (prtL o n t b c m d = X.data.toList ++ restL 2 n t.data.toList (rtxL b c.data.toList m.data.toList d.data.toList)) := by rw [Hid, prtL, if_pos h, hk, hxw, hX]
  have HX : Hid (∀ w' : World, ∀ p, (∀ (i : Nat) (x : List UInt8), wordsL[i]? = some x → w'.cell? ⟨p, i, none⟩ = some (.string ⟨x.toArray⟩)) → w'.cell? ⟨p, o, none⟩ = some (.string X)) := fun w' p hh => by rw [hX]; exact hh o x hx
  have HD : Hid (∀ w, _) := rDecimal_any n hn1 hn2
  obtain ⟨D, hD⟩ : ∃ D : ByteArray, D = ⟨(Lib.itoa n).toArray⟩ := ⟨_, rfl⟩
  have hDs : D.size ≤ 21 := by rw [hD]; exact itoa_size n hn1 hn2
  rw [← hD] at HD
  have HR : Hid (prtL o n t b c m d = (X ++ ⟨#[32]⟩ ++ D : ByteArray).data.toList) := by rw [Hid, HP.out, hD]; simp [restL, ByteArray.data_append]
  clear h hk hx hxw hxl hX HP hc hm hd ht hD
  go_enter Tryd.func16, Tryd.ntmps16
  go_wp2_with (go_at_call 14; refine (HC.out _).mono ?_; rintro e w1 ⟨rfl, hb1⟩; have hs1 : w.heap.size < w1.heap.size := (by have := hb1.size; simp at this; omega); have hc10 : w1.cell? ⟨w.heap.size, 0, none⟩ = some (.int .i64 (o : Int)) := (hb1.cell (p := ⟨w.heap.size, 0, none⟩) (by simp [*])).trans (by simp [go_sem, *]); have hc11 : w1.cell? ⟨w.heap.size, 1, none⟩ = some (.int .i64 n) := (hb1.cell (p := ⟨w.heap.size, 1, none⟩) (by simp [*])).trans (by simp [go_sem, *]); have hB1 : Hid (Below w.heap.size w w1) := Below.step ((Below.refl _ _).alloc (Nat.le_refl _) _) hb1; clear hb1 HC)
  go_region_with (go_at_call 29; refine (HW.out _).mono ?_; rintro e w2 ⟨rfl, hb2, hcw⟩; have hcx : w2.cell? ⟨w1.heap.size, o, none⟩ = some (.string X) := HX.out _ _ hcw; have hs2 : w.heap.size < w2.heap.size := (by have := hb2.size; simp at this; omega); have hc20 : w2.cell? ⟨w.heap.size, 0, none⟩ = some (.int .i64 (o : Int)) := (hb2.cell (p := ⟨w.heap.size, 0, none⟩) (by simp [*])).trans (by simp [go_sem, *]); have hc21 : w2.cell? ⟨w.heap.size, 1, none⟩ = some (.int .i64 n) := (hb2.cell (p := ⟨w.heap.size, 1, none⟩) (by simp [*])).trans (by simp [go_sem, *]); have hB2 : Hid (Below w.heap.size w w2) := Below.step hB1.out.drew hb2; clear hb2 hcw)
  all_goals go_wp2_with (first
    | (go_at_call 12; refine (HO.out _).mono ?_; rintro e w9 ⟨rfl, hw9⟩; rw [hw9]; clear hw9 HO)
    | (go_at_call 37; refine (HD.out _).mono ?_; rintro e w3 ⟨rfl, hb3⟩; have hB3 : Hid (Below w.heap.size w w3) := Below.step hB2.out hb3; clear hb3 HD))
  all_goals refine bodyPost_ret (v := .tuple #[.string (X ++ ⟨#[32]⟩ ++ D), .int .i64 0]) (by simp [results, Tryd.results16, go_sem, *]) rfl ⟨by rw [HR.out], hB3.out⟩

set_option maxRecDepth 100000 in
set_option maxHeartbeats 4000000 in
theorem print_3 (o : Nat) (n : Int) (hn1 : -9223372036854775808 ≤ n) (hn2 : n ≤ 9223372036854775807) (ho1 : 1 ≤ o) (ho2 : o ≤ 40) (hk : opdI o = 3) (t : ByteArray) (b : Bool) (c m d : ByteArray) (ht : t.size ≤ maxLen) (hc : c.size ≤ maxLen) (hm : m.size ≤ maxLen) (hd : d.size ≤ maxLen) (h : ickE o n t b c m d = 0) (w : World) : Calls Tryd.prog 16 #[.agg #[.int .i64 (o : Int), .int .i64 n, .string t, .bool b, .string c, .string m, .string d]] w fun e w' => e = .returned (.tuple #[.string ⟨(prtL o n t b c m d).toArray⟩, .int .i64 0]) ∧ Below w.heap.size w w' := by
  have HC := rCheck_any o n t b c m d ht hc hm hd
  rw [h] at HC
  have HC : Hid (∀ w, _) := HC
  have HW : Hid (∀ w, _) := rWords_row
  have HO := rOperand_any o
  rw [hk] at HO
  have HO : Hid (∀ w, _) := HO
  have hts := ick_type h
  obtain ⟨x, hx⟩ : ∃ x, wordsL[o]? = some x := ⟨_, List.getElem?_eq_getElem (by rw [words_size]; omega)⟩
  have hxw : wordL o = x := by rw [wordL, List.getD_eq_getElem?_getD, show (o : Int).toNat = o by omega, hx]; rfl
  have hxl := word_len o
  rw [hxw] at hxl
  obtain ⟨X, hX⟩ : ∃ X : ByteArray, X = ⟨x.toArray⟩ := ⟨_, rfl⟩
  have hXs : X.size ≤ 20 := by rw [hX]; simpa [ByteArray.size] using hxl
  have HP : Hid (prtL o n t b c m d = X.data.toList ++ restL 3 n t.data.toList (rtxL b c.data.toList m.data.toList d.data.toList)) := by rw [Hid, prtL, if_pos h, hk, hxw, hX]
  have HX : Hid (∀ w' : World, ∀ p, (∀ (i : Nat) (x : List UInt8), wordsL[i]? = some x → w'.cell? ⟨p, i, none⟩ = some (.string ⟨x.toArray⟩)) → w'.cell? ⟨p, o, none⟩ = some (.string X)) := fun w' p hh => by rw [hX]; exact hh o x hx
  have HD : Hid (∀ w, _) := rDecimal_any n hn1 hn2
  obtain ⟨D, hD⟩ : ∃ D : ByteArray, D = ⟨(Lib.itoa n).toArray⟩ := ⟨_, rfl⟩
  have hDs : D.size ≤ 21 := by rw [hD]; exact itoa_size n hn1 hn2
  rw [← hD] at HD
  have HR : Hid (prtL o n t b c m d = (X ++ ⟨#[32]⟩ ++ D : ByteArray).data.toList) := by rw [Hid, HP.out, hD]; simp [restL, ByteArray.data_append]
  clear h hk hx hxw hxl hX HP hc hm hd ht hD
  go_enter Tryd.func16, Tryd.ntmps16
  go_wp2_with (go_at_call 14; refine (HC.out _).mono ?_; rintro e w1 ⟨rfl, hb1⟩; have hs1 : w.heap.size < w1.heap.size := (by have := hb1.size; simp at this; omega); have hc10 : w1.cell? ⟨w.heap.size, 0, none⟩ = some (.int .i64 (o : Int)) := (hb1.cell (p := ⟨w.heap.size, 0, none⟩) (by simp [*])).trans (by simp [go_sem, *]); have hc11 : w1.cell? ⟨w.heap.size, 1, none⟩ = some (.int .i64 n) := (hb1.cell (p := ⟨w.heap.size, 1, none⟩) (by simp [*])).trans (by simp [go_sem, *]); have hB1 : Hid (Below w.heap.size w w1) := Below.step ((Below.refl _ _).alloc (Nat.le_refl _) _) hb1; clear hb1 HC)
  go_region_with (go_at_call 29; refine (HW.out _).mono ?_; rintro e w2 ⟨rfl, hb2, hcw⟩; have hcx : w2.cell? ⟨w1.heap.size, o, none⟩ = some (.string X) := HX.out _ _ hcw; have hs2 : w.heap.size < w2.heap.size := (by have := hb2.size; simp at this; omega); have hc20 : w2.cell? ⟨w.heap.size, 0, none⟩ = some (.int .i64 (o : Int)) := (hb2.cell (p := ⟨w.heap.size, 0, none⟩) (by simp [*])).trans (by simp [go_sem, *]); have hc21 : w2.cell? ⟨w.heap.size, 1, none⟩ = some (.int .i64 n) := (hb2.cell (p := ⟨w.heap.size, 1, none⟩) (by simp [*])).trans (by simp [go_sem, *]); have hB2 : Hid (Below w.heap.size w w2) := Below.step hB1.out.drew hb2; clear hb2 hcw)
  all_goals go_wp2_with (first
    | (go_at_call 12; refine (HO.out _).mono ?_; rintro e w9 ⟨rfl, hw9⟩; rw [hw9]; clear hw9 HO)
    | (go_at_call 37; refine (HD.out _).mono ?_; rintro e w3 ⟨rfl, hb3⟩; have hB3 : Hid (Below w.heap.size w w3) := Below.step hB2.out hb3; clear hb3 HD))
  all_goals refine bodyPost_ret (v := .tuple #[.string (X ++ ⟨#[32]⟩ ++ D), .int .i64 0]) (by simp [results, Tryd.results16, go_sem, *]) rfl ⟨by rw [HR.out], hB3.out⟩

set_option maxRecDepth 100000 in
set_option maxHeartbeats 4000000 in
theorem print_4 (o : Nat) (n : Int) (ho1 : 1 ≤ o) (ho2 : o ≤ 40) (hk : opdI o = 4) (t : ByteArray) (b : Bool) (c m d : ByteArray) (ht : t.size ≤ maxLen) (hc : c.size ≤ maxLen) (hm : m.size ≤ maxLen) (hd : d.size ≤ maxLen) (h : ickE o n t b c m d = 0) (w : World) : Calls Tryd.prog 16 #[.agg #[.int .i64 (o : Int), .int .i64 n, .string t, .bool b, .string c, .string m, .string d]] w fun e w' => e = .returned (.tuple #[.string ⟨(prtL o n t b c m d).toArray⟩, .int .i64 0]) ∧ Below w.heap.size w w' := by
  have HC := rCheck_any o n t b c m d ht hc hm hd
  rw [h] at HC
  have HC : Hid (∀ w, _) := HC
  have HW : Hid (∀ w, _) := rWords_row
  have HO := rOperand_any o
  rw [hk] at HO
  have HO : Hid (∀ w, _) := HO
  have hts := ick_type h
  obtain ⟨x, hx⟩ : ∃ x, wordsL[o]? = some x := ⟨_, List.getElem?_eq_getElem (by rw [words_size]; omega)⟩
  have hxw : wordL o = x := by rw [wordL, List.getD_eq_getElem?_getD, show (o : Int).toNat = o by omega, hx]; rfl
  have hxl := word_len o
  rw [hxw] at hxl
  obtain ⟨X, hX⟩ : ∃ X : ByteArray, X = ⟨x.toArray⟩ := ⟨_, rfl⟩
  have hXs : X.size ≤ 20 := by rw [hX]; simpa [ByteArray.size] using hxl
  have HP : Hid (prtL o n t b c m d = X.data.toList ++ restL 4 n t.data.toList (rtxL b c.data.toList m.data.toList d.data.toList)) := by rw [Hid, prtL, if_pos h, hk, hxw, hX]
  have HX : Hid (∀ w' : World, ∀ p, (∀ (i : Nat) (x : List UInt8), wordsL[i]? = some x → w'.cell? ⟨p, i, none⟩ = some (.string ⟨x.toArray⟩)) → w'.cell? ⟨p, o, none⟩ = some (.string X)) := fun w' p hh => by rw [hX]; exact hh o x hx
  have HR : Hid (prtL o n t b c m d = (X ++ ⟨#[32]⟩ ++ t : ByteArray).data.toList) := by rw [Hid, HP.out]; simp [restL, ByteArray.data_append]
  clear h hk hx hxw hxl hX HP hc hm hd ht
  go_enter Tryd.func16, Tryd.ntmps16
  go_wp2_with (go_at_call 14; refine (HC.out _).mono ?_; rintro e w1 ⟨rfl, hb1⟩; have hs1 : w.heap.size < w1.heap.size := (by have := hb1.size; simp at this; omega); have hc10 : w1.cell? ⟨w.heap.size, 0, none⟩ = some (.int .i64 (o : Int)) := (hb1.cell (p := ⟨w.heap.size, 0, none⟩) (by simp [*])).trans (by simp [go_sem, *]); have hc12 : w1.cell? ⟨w.heap.size, 2, none⟩ = some (.string t) := (hb1.cell (p := ⟨w.heap.size, 2, none⟩) (by simp [*])).trans (by simp [go_sem, *]); have hB1 : Hid (Below w.heap.size w w1) := Below.step ((Below.refl _ _).alloc (Nat.le_refl _) _) hb1; clear hb1 HC)
  go_region_with (go_at_call 29; refine (HW.out _).mono ?_; rintro e w2 ⟨rfl, hb2, hcw⟩; have hcx : w2.cell? ⟨w1.heap.size, o, none⟩ = some (.string X) := HX.out _ _ hcw; have hs2 : w.heap.size < w2.heap.size := (by have := hb2.size; simp at this; omega); have hc20 : w2.cell? ⟨w.heap.size, 0, none⟩ = some (.int .i64 (o : Int)) := (hb2.cell (p := ⟨w.heap.size, 0, none⟩) (by simp [*])).trans (by simp [go_sem, *]); have hc22 : w2.cell? ⟨w.heap.size, 2, none⟩ = some (.string t) := (hb2.cell (p := ⟨w.heap.size, 2, none⟩) (by simp [*])).trans (by simp [go_sem, *]); have hB2 : Hid (Below w.heap.size w w2) := Below.step hB1.out.drew hb2; clear hb2 hcw)
  all_goals go_wp2_with (first
    | (go_at_call 12; refine (HO.out _).mono ?_; rintro e w9 ⟨rfl, hw9⟩; rw [hw9]; clear hw9 HO))
  all_goals refine bodyPost_ret (v := .tuple #[.string (X ++ ⟨#[32]⟩ ++ t), .int .i64 0]) (by simp [results, Tryd.results16, go_sem, *]) rfl ⟨by rw [HR.out], hB2.out⟩

set_option maxRecDepth 100000 in
set_option maxHeartbeats 4000000 in
theorem print_5 (o : Nat) (n : Int) (ho1 : 1 ≤ o) (ho2 : o ≤ 40) (hk : opdI o = 5) (t : ByteArray) (b : Bool) (c m d : ByteArray) (ht : t.size ≤ maxLen) (hc : c.size ≤ maxLen) (hm : m.size ≤ maxLen) (hd : d.size ≤ maxLen) (h : ickE o n t b c m d = 0) (w : World) : Calls Tryd.prog 16 #[.agg #[.int .i64 (o : Int), .int .i64 n, .string t, .bool b, .string c, .string m, .string d]] w fun e w' => e = .returned (.tuple #[.string ⟨(prtL o n t b c m d).toArray⟩, .int .i64 0]) ∧ Below w.heap.size w w' := by
  have HC := rCheck_any o n t b c m d ht hc hm hd
  rw [h] at HC
  have HC : Hid (∀ w, _) := HC
  have HW : Hid (∀ w, _) := rWords_row
  have HO := rOperand_any o
  rw [hk] at HO
  have HO : Hid (∀ w, _) := HO
  have hts := ick_type h
  obtain ⟨x, hx⟩ : ∃ x, wordsL[o]? = some x := ⟨_, List.getElem?_eq_getElem (by rw [words_size]; omega)⟩
  have hxw : wordL o = x := by rw [wordL, List.getD_eq_getElem?_getD, show (o : Int).toNat = o by omega, hx]; rfl
  have hxl := word_len o
  rw [hxw] at hxl
  obtain ⟨X, hX⟩ : ∃ X : ByteArray, X = ⟨x.toArray⟩ := ⟨_, rfl⟩
  have hXs : X.size ≤ 20 := by rw [hX]; simpa [ByteArray.size] using hxl
  have HP : Hid (prtL o n t b c m d = X.data.toList ++ restL 5 n t.data.toList (rtxL b c.data.toList m.data.toList d.data.toList)) := by rw [Hid, prtL, if_pos h, hk, hxw, hX]
  have HX : Hid (∀ w' : World, ∀ p, (∀ (i : Nat) (x : List UInt8), wordsL[i]? = some x → w'.cell? ⟨p, i, none⟩ = some (.string ⟨x.toArray⟩)) → w'.cell? ⟨p, o, none⟩ = some (.string X)) := fun w' p hh => by rw [hX]; exact hh o x hx
  have HR : Hid (prtL o n t b c m d = (X ++ ⟨#[32]⟩ ++ t : ByteArray).data.toList) := by rw [Hid, HP.out]; simp [restL, ByteArray.data_append]
  clear h hk hx hxw hxl hX HP hc hm hd ht
  go_enter Tryd.func16, Tryd.ntmps16
  go_wp2_with (go_at_call 14; refine (HC.out _).mono ?_; rintro e w1 ⟨rfl, hb1⟩; have hs1 : w.heap.size < w1.heap.size := (by have := hb1.size; simp at this; omega); have hc10 : w1.cell? ⟨w.heap.size, 0, none⟩ = some (.int .i64 (o : Int)) := (hb1.cell (p := ⟨w.heap.size, 0, none⟩) (by simp [*])).trans (by simp [go_sem, *]); have hc12 : w1.cell? ⟨w.heap.size, 2, none⟩ = some (.string t) := (hb1.cell (p := ⟨w.heap.size, 2, none⟩) (by simp [*])).trans (by simp [go_sem, *]); have hB1 : Hid (Below w.heap.size w w1) := Below.step ((Below.refl _ _).alloc (Nat.le_refl _) _) hb1; clear hb1 HC)
  go_region_with (go_at_call 29; refine (HW.out _).mono ?_; rintro e w2 ⟨rfl, hb2, hcw⟩; have hcx : w2.cell? ⟨w1.heap.size, o, none⟩ = some (.string X) := HX.out _ _ hcw; have hs2 : w.heap.size < w2.heap.size := (by have := hb2.size; simp at this; omega); have hc20 : w2.cell? ⟨w.heap.size, 0, none⟩ = some (.int .i64 (o : Int)) := (hb2.cell (p := ⟨w.heap.size, 0, none⟩) (by simp [*])).trans (by simp [go_sem, *]); have hc22 : w2.cell? ⟨w.heap.size, 2, none⟩ = some (.string t) := (hb2.cell (p := ⟨w.heap.size, 2, none⟩) (by simp [*])).trans (by simp [go_sem, *]); have hB2 : Hid (Below w.heap.size w w2) := Below.step hB1.out.drew hb2; clear hb2 hcw)
  all_goals go_wp2_with (first
    | (go_at_call 12; refine (HO.out _).mono ?_; rintro e w9 ⟨rfl, hw9⟩; rw [hw9]; clear hw9 HO))
  all_goals refine bodyPost_ret (v := .tuple #[.string (X ++ ⟨#[32]⟩ ++ t), .int .i64 0]) (by simp [results, Tryd.results16, go_sem, *]) rfl ⟨by rw [HR.out], hB2.out⟩

set_option maxRecDepth 100000 in
set_option maxHeartbeats 4000000 in
theorem print_6 (o : Nat) (n : Int) (ho1 : 1 ≤ o) (ho2 : o ≤ 40) (hk : opdI o = 6) (t : ByteArray) (b : Bool) (c m d : ByteArray) (ht : t.size ≤ maxLen) (hc : c.size ≤ maxLen) (hm : m.size ≤ maxLen) (hd : d.size ≤ maxLen) (h : ickE o n t b c m d = 0) (w : World) : Calls Tryd.prog 16 #[.agg #[.int .i64 (o : Int), .int .i64 n, .string t, .bool b, .string c, .string m, .string d]] w fun e w' => e = .returned (.tuple #[.string ⟨(prtL o n t b c m d).toArray⟩, .int .i64 0]) ∧ Below w.heap.size w w' := by
  have HC := rCheck_any o n t b c m d ht hc hm hd
  rw [h] at HC
  have HC : Hid (∀ w, _) := HC
  have HW : Hid (∀ w, _) := rWords_row
  have HO := rOperand_any o
  rw [hk] at HO
  have HO : Hid (∀ w, _) := HO
  have hts := ick_type h
  obtain ⟨x, hx⟩ : ∃ x, wordsL[o]? = some x := ⟨_, List.getElem?_eq_getElem (by rw [words_size]; omega)⟩
  have hxw : wordL o = x := by rw [wordL, List.getD_eq_getElem?_getD, show (o : Int).toNat = o by omega, hx]; rfl
  have hxl := word_len o
  rw [hxw] at hxl
  obtain ⟨X, hX⟩ : ∃ X : ByteArray, X = ⟨x.toArray⟩ := ⟨_, rfl⟩
  have hXs : X.size ≤ 20 := by rw [hX]; simpa [ByteArray.size] using hxl
  have HP : Hid (prtL o n t b c m d = X.data.toList ++ restL 6 n t.data.toList (rtxL b c.data.toList m.data.toList d.data.toList)) := by rw [Hid, prtL, if_pos h, hk, hxw, hX]
  have HX : Hid (∀ w' : World, ∀ p, (∀ (i : Nat) (x : List UInt8), wordsL[i]? = some x → w'.cell? ⟨p, i, none⟩ = some (.string ⟨x.toArray⟩)) → w'.cell? ⟨p, o, none⟩ = some (.string X)) := fun w' p hh => by rw [hX]; exact hh o x hx
  have HR : Hid (prtL o n t b c m d = (X ++ ⟨#[32]⟩ ++ t : ByteArray).data.toList) := by rw [Hid, HP.out]; simp [restL, ByteArray.data_append]
  clear h hk hx hxw hxl hX HP hc hm hd ht
  go_enter Tryd.func16, Tryd.ntmps16
  go_wp2_with (go_at_call 14; refine (HC.out _).mono ?_; rintro e w1 ⟨rfl, hb1⟩; have hs1 : w.heap.size < w1.heap.size := (by have := hb1.size; simp at this; omega); have hc10 : w1.cell? ⟨w.heap.size, 0, none⟩ = some (.int .i64 (o : Int)) := (hb1.cell (p := ⟨w.heap.size, 0, none⟩) (by simp [*])).trans (by simp [go_sem, *]); have hc12 : w1.cell? ⟨w.heap.size, 2, none⟩ = some (.string t) := (hb1.cell (p := ⟨w.heap.size, 2, none⟩) (by simp [*])).trans (by simp [go_sem, *]); have hB1 : Hid (Below w.heap.size w w1) := Below.step ((Below.refl _ _).alloc (Nat.le_refl _) _) hb1; clear hb1 HC)
  go_region_with (go_at_call 29; refine (HW.out _).mono ?_; rintro e w2 ⟨rfl, hb2, hcw⟩; have hcx : w2.cell? ⟨w1.heap.size, o, none⟩ = some (.string X) := HX.out _ _ hcw; have hs2 : w.heap.size < w2.heap.size := (by have := hb2.size; simp at this; omega); have hc20 : w2.cell? ⟨w.heap.size, 0, none⟩ = some (.int .i64 (o : Int)) := (hb2.cell (p := ⟨w.heap.size, 0, none⟩) (by simp [*])).trans (by simp [go_sem, *]); have hc22 : w2.cell? ⟨w.heap.size, 2, none⟩ = some (.string t) := (hb2.cell (p := ⟨w.heap.size, 2, none⟩) (by simp [*])).trans (by simp [go_sem, *]); have hB2 : Hid (Below w.heap.size w w2) := Below.step hB1.out.drew hb2; clear hb2 hcw)
  all_goals go_wp2_with (first
    | (go_at_call 12; refine (HO.out _).mono ?_; rintro e w9 ⟨rfl, hw9⟩; rw [hw9]; clear hw9 HO))
  all_goals refine bodyPost_ret (v := .tuple #[.string (X ++ ⟨#[32]⟩ ++ t), .int .i64 0]) (by simp [results, Tryd.results16, go_sem, *]) rfl ⟨by rw [HR.out], hB2.out⟩

set_option maxRecDepth 100000 in
set_option maxHeartbeats 4000000 in
theorem print_7 (o : Nat) (n : Int) (hn1 : -9223372036854775808 ≤ n) (hn2 : n ≤ 9223372036854775807) (ho1 : 1 ≤ o) (ho2 : o ≤ 40) (hk : opdI o = 7) (t : ByteArray) (b : Bool) (c m d : ByteArray) (ht : t.size ≤ maxLen) (hc : c.size ≤ maxLen) (hm : m.size ≤ maxLen) (hd : d.size ≤ maxLen) (h : ickE o n t b c m d = 0) (w : World) : Calls Tryd.prog 16 #[.agg #[.int .i64 (o : Int), .int .i64 n, .string t, .bool b, .string c, .string m, .string d]] w fun e w' => e = .returned (.tuple #[.string ⟨(prtL o n t b c m d).toArray⟩, .int .i64 0]) ∧ Below w.heap.size w w' := by
  have HC := rCheck_any o n t b c m d ht hc hm hd
  rw [h] at HC
  have HC : Hid (∀ w, _) := HC
  have HW : Hid (∀ w, _) := rWords_row
  have HO := rOperand_any o
  rw [hk] at HO
  have HO : Hid (∀ w, _) := HO
  have hts := ick_type h
  obtain ⟨x, hx⟩ : ∃ x, wordsL[o]? = some x := ⟨_, List.getElem?_eq_getElem (by rw [words_size]; omega)⟩
  have hxw : wordL o = x := by rw [wordL, List.getD_eq_getElem?_getD, show (o : Int).toNat = o by omega, hx]; rfl
  have hxl := word_len o
  rw [hxw] at hxl
  obtain ⟨X, hX⟩ : ∃ X : ByteArray, X = ⟨x.toArray⟩ := ⟨_, rfl⟩
  have hXs : X.size ≤ 20 := by rw [hX]; simpa [ByteArray.size] using hxl
  have HP : Hid (prtL o n t b c m d = X.data.toList ++ restL 7 n t.data.toList (rtxL b c.data.toList m.data.toList d.data.toList)) := by rw [Hid, prtL, if_pos h, hk, hxw, hX]
  have HX : Hid (∀ w' : World, ∀ p, (∀ (i : Nat) (x : List UInt8), wordsL[i]? = some x → w'.cell? ⟨p, i, none⟩ = some (.string ⟨x.toArray⟩)) → w'.cell? ⟨p, o, none⟩ = some (.string X)) := fun w' p hh => by rw [hX]; exact hh o x hx
  have HD : Hid (∀ w, _) := rDecimal_any n hn1 hn2
  obtain ⟨D, hD⟩ : ∃ D : ByteArray, D = ⟨(Lib.itoa n).toArray⟩ := ⟨_, rfl⟩
  have hDs : D.size ≤ 21 := by rw [hD]; exact itoa_size n hn1 hn2
  rw [← hD] at HD
  have HR : Hid (prtL o n t b c m d = (X ++ ⟨#[32]⟩ ++ D ++ ⟨#[32]⟩ ++ t : ByteArray).data.toList) := by rw [Hid, HP.out, hD]; simp [restL, ByteArray.data_append]
  clear h hk hx hxw hxl hX HP hc hm hd ht hD
  go_enter Tryd.func16, Tryd.ntmps16
  go_wp2_with (go_at_call 14; refine (HC.out _).mono ?_; rintro e w1 ⟨rfl, hb1⟩; have hs1 : w.heap.size < w1.heap.size := (by have := hb1.size; simp at this; omega); have hc10 : w1.cell? ⟨w.heap.size, 0, none⟩ = some (.int .i64 (o : Int)) := (hb1.cell (p := ⟨w.heap.size, 0, none⟩) (by simp [*])).trans (by simp [go_sem, *]); have hc11 : w1.cell? ⟨w.heap.size, 1, none⟩ = some (.int .i64 n) := (hb1.cell (p := ⟨w.heap.size, 1, none⟩) (by simp [*])).trans (by simp [go_sem, *]); have hc12 : w1.cell? ⟨w.heap.size, 2, none⟩ = some (.string t) := (hb1.cell (p := ⟨w.heap.size, 2, none⟩) (by simp [*])).trans (by simp [go_sem, *]); have hB1 : Hid (Below w.heap.size w w1) := Below.step ((Below.refl _ _).alloc (Nat.le_refl _) _) hb1; clear hb1 HC)
  go_region_with (go_at_call 29; refine (HW.out _).mono ?_; rintro e w2 ⟨rfl, hb2, hcw⟩; have hcx : w2.cell? ⟨w1.heap.size, o, none⟩ = some (.string X) := HX.out _ _ hcw; have hs2 : w.heap.size < w2.heap.size := (by have := hb2.size; simp at this; omega); have hc20 : w2.cell? ⟨w.heap.size, 0, none⟩ = some (.int .i64 (o : Int)) := (hb2.cell (p := ⟨w.heap.size, 0, none⟩) (by simp [*])).trans (by simp [go_sem, *]); have hc21 : w2.cell? ⟨w.heap.size, 1, none⟩ = some (.int .i64 n) := (hb2.cell (p := ⟨w.heap.size, 1, none⟩) (by simp [*])).trans (by simp [go_sem, *]); have hc22 : w2.cell? ⟨w.heap.size, 2, none⟩ = some (.string t) := (hb2.cell (p := ⟨w.heap.size, 2, none⟩) (by simp [*])).trans (by simp [go_sem, *]); have hB2 : Hid (Below w.heap.size w w2) := Below.step hB1.out.drew hb2; clear hb2 hcw)
  all_goals go_wp2_with (go_at_call 12; refine (HO.out _).mono ?_; rintro e w9 ⟨rfl, hw9⟩; rw [hw9]; clear hw9 HO)
  all_goals go_region_with (go_at_call 37; refine (HD.out _).mono ?_; rintro e w3 ⟨rfl, hb3⟩; have hs3 : w.heap.size < w3.heap.size := (by have := hb3.size; simp at this; omega); have hc32 : w3.cell? ⟨w.heap.size, 2, none⟩ = some (.string t) := (hb3.cell (p := ⟨w.heap.size, 2, none⟩) (by simp [*])).trans (by simp [go_sem, *]); have hB3 : Hid (Below w.heap.size w w3) := Below.step hB2.out.drew hb3; clear hb3)
  all_goals go_wp2
  all_goals refine bodyPost_ret (v := .tuple #[.string (X ++ ⟨#[32]⟩ ++ D ++ ⟨#[32]⟩ ++ t), .int .i64 0]) (by simp [results, Tryd.results16, go_sem, *]) rfl ⟨by rw [HR.out], hB3.out⟩

set_option maxRecDepth 100000 in
set_option maxHeartbeats 4000000 in
theorem print_8 (o : Nat) (n : Int) (ho1 : 1 ≤ o) (ho2 : o ≤ 40) (hk : opdI o = 8) (t : ByteArray) (b : Bool) (c m d : ByteArray) (ht : t.size ≤ maxLen) (hc : c.size ≤ maxLen) (hm : m.size ≤ maxLen) (hd : d.size ≤ maxLen) (h : ickE o n t b c m d = 0) (w : World) : Calls Tryd.prog 16 #[.agg #[.int .i64 (o : Int), .int .i64 n, .string t, .bool b, .string c, .string m, .string d]] w fun e w' => e = .returned (.tuple #[.string ⟨(prtL o n t b c m d).toArray⟩, .int .i64 0]) ∧ Below w.heap.size w w' := by
  have HC := rCheck_any o n t b c m d ht hc hm hd
  rw [h] at HC
  have HC : Hid (∀ w, _) := HC
  have HW : Hid (∀ w, _) := rWords_row
  have HO := rOperand_any o
  rw [hk] at HO
  have HO : Hid (∀ w, _) := HO
  have hts := ick_type h
  obtain ⟨x, hx⟩ : ∃ x, wordsL[o]? = some x := ⟨_, List.getElem?_eq_getElem (by rw [words_size]; omega)⟩
  have hxw : wordL o = x := by rw [wordL, List.getD_eq_getElem?_getD, show (o : Int).toNat = o by omega, hx]; rfl
  have hxl := word_len o
  rw [hxw] at hxl
  obtain ⟨X, hX⟩ : ∃ X : ByteArray, X = ⟨x.toArray⟩ := ⟨_, rfl⟩
  have hXs : X.size ≤ 20 := by rw [hX]; simpa [ByteArray.size] using hxl
  have HP : Hid (prtL o n t b c m d = X.data.toList ++ restL 8 n t.data.toList (rtxL b c.data.toList m.data.toList d.data.toList)) := by rw [Hid, prtL, if_pos h, hk, hxw, hX]
  have HX : Hid (∀ w' : World, ∀ p, (∀ (i : Nat) (x : List UInt8), wordsL[i]? = some x → w'.cell? ⟨p, i, none⟩ = some (.string ⟨x.toArray⟩)) → w'.cell? ⟨p, o, none⟩ = some (.string X)) := fun w' p hh => by rw [hX]; exact hh o x hx
  have HT : Hid (∀ w, _) := rRefText_any b c m d hc hm hd
  obtain ⟨D, hD⟩ : ∃ D : ByteArray, D = ⟨(rtxL b c.data.toList m.data.toList d.data.toList).toArray⟩ := ⟨_, rfl⟩
  have hDs : D.size ≤ 5000 := by rw [hD]; exact rtx_size b c.data.toList m.data.toList d.data.toList
  rw [← hD] at HT
  have HR : Hid (prtL o n t b c m d = (X ++ ⟨#[32]⟩ ++ D : ByteArray).data.toList) := by rw [Hid, HP.out, hD]; simp [restL, ByteArray.data_append]
  clear h hk hx hxw hxl hX HP hc hm hd ht hD
  generalize rckE c.data.toList m.data.toList d.data.toList = er at *
  go_enter Tryd.func16, Tryd.ntmps16
  go_wp2_with (go_at_call 14; refine (HC.out _).mono ?_; rintro e w1 ⟨rfl, hb1⟩; have hs1 : w.heap.size < w1.heap.size := (by have := hb1.size; simp at this; omega); have hc10 : w1.cell? ⟨w.heap.size, 0, none⟩ = some (.int .i64 (o : Int)) := (hb1.cell (p := ⟨w.heap.size, 0, none⟩) (by simp [*])).trans (by simp [go_sem, *]); have hc13 : w1.cell? ⟨w.heap.size, 3, none⟩ = some (.bool b) := (hb1.cell (p := ⟨w.heap.size, 3, none⟩) (by simp [*])).trans (by simp [go_sem, *]); have hc14 : w1.cell? ⟨w.heap.size, 4, none⟩ = some (.string c) := (hb1.cell (p := ⟨w.heap.size, 4, none⟩) (by simp [*])).trans (by simp [go_sem, *]); have hc15 : w1.cell? ⟨w.heap.size, 5, none⟩ = some (.string m) := (hb1.cell (p := ⟨w.heap.size, 5, none⟩) (by simp [*])).trans (by simp [go_sem, *]); have hc16 : w1.cell? ⟨w.heap.size, 6, none⟩ = some (.string d) := (hb1.cell (p := ⟨w.heap.size, 6, none⟩) (by simp [*])).trans (by simp [go_sem, *]); have hB1 : Hid (Below w.heap.size w w1) := Below.step ((Below.refl _ _).alloc (Nat.le_refl _) _) hb1; clear hb1 HC)
  go_region_with (go_at_call 29; refine (HW.out _).mono ?_; rintro e w2 ⟨rfl, hb2, hcw⟩; have hcx : w2.cell? ⟨w1.heap.size, o, none⟩ = some (.string X) := HX.out _ _ hcw; have hs2 : w.heap.size < w2.heap.size := (by have := hb2.size; simp at this; omega); have hc20 : w2.cell? ⟨w.heap.size, 0, none⟩ = some (.int .i64 (o : Int)) := (hb2.cell (p := ⟨w.heap.size, 0, none⟩) (by simp [*])).trans (by simp [go_sem, *]); have hc23 : w2.cell? ⟨w.heap.size, 3, none⟩ = some (.bool b) := (hb2.cell (p := ⟨w.heap.size, 3, none⟩) (by simp [*])).trans (by simp [go_sem, *]); have hc24 : w2.cell? ⟨w.heap.size, 4, none⟩ = some (.string c) := (hb2.cell (p := ⟨w.heap.size, 4, none⟩) (by simp [*])).trans (by simp [go_sem, *]); have hc25 : w2.cell? ⟨w.heap.size, 5, none⟩ = some (.string m) := (hb2.cell (p := ⟨w.heap.size, 5, none⟩) (by simp [*])).trans (by simp [go_sem, *]); have hc26 : w2.cell? ⟨w.heap.size, 6, none⟩ = some (.string d) := (hb2.cell (p := ⟨w.heap.size, 6, none⟩) (by simp [*])).trans (by simp [go_sem, *]); have hB2 : Hid (Below w.heap.size w w2) := Below.step hB1.out.drew hb2; clear hb2 hcw)
  all_goals go_wp2_with (first
    | (go_at_call 12; refine (HO.out _).mono ?_; rintro e w9 ⟨rfl, hw9⟩; rw [hw9]; clear hw9 HO)
    | (go_at_call 18; refine (HT.out _).mono ?_; rintro e w3 ⟨rfl, hb3⟩; have hB3 : Hid (Below w.heap.size w w3) := Below.step hB2.out hb3; clear hb3 HT))
  all_goals refine bodyPost_ret (v := .tuple #[.string (X ++ ⟨#[32]⟩ ++ D), .int .i64 0]) (by simp [results, Tryd.results16, go_sem, *]) rfl ⟨by rw [HR.out], hB3.out⟩

set_option maxRecDepth 100000 in
set_option maxHeartbeats 1000000 in
theorem rPrint_any (op n : Int) (hn1 : -9223372036854775808 ≤ n) (hn2 : n ≤ 9223372036854775807) (t : ByteArray) (b : Bool) (c m d : ByteArray) (ht : t.size ≤ maxLen) (hc : c.size ≤ maxLen) (hm : m.size ≤ maxLen) (hd : d.size ≤ maxLen) (w : World) : Calls Tryd.prog 16 #[.agg #[.int .i64 op, .int .i64 n, .string t, .bool b, .string c, .string m, .string d]] w fun e w' => e = .returned (.tuple #[.string ⟨(prtL op n t b c m d).toArray⟩, .int .i64 (ickE op n t b c m d)]) ∧ Below w.heap.size w w' := by
  by_cases h : ickE op n t b c m d = 0
  · obtain ⟨ho1, ho2⟩ := ick_op h
    obtain ⟨o, rfl⟩ : ∃ o : Nat, op = o := ⟨op.toNat, by omega⟩
    rw [h]
    rcases opd_cases o with e | e | e | e | e | e | e | e | e | e
    · rw [ickE, e] at h; simp [insB] at h
    · exact print_0 o n (by omega) (by omega) e t b c m d ht hc hm hd h w
    · exact print_1 o n hn1 hn2 (by omega) (by omega) e t b c m d ht hc hm hd h w
    · exact print_2 o n hn1 hn2 (by omega) (by omega) e t b c m d ht hc hm hd h w
    · exact print_3 o n hn1 hn2 (by omega) (by omega) e t b c m d ht hc hm hd h w
    · exact print_4 o n (by omega) (by omega) e t b c m d ht hc hm hd h w
    · exact print_5 o n (by omega) (by omega) e t b c m d ht hc hm hd h w
    · exact print_6 o n (by omega) (by omega) e t b c m d ht hc hm hd h w
    · exact print_7 o n hn1 hn2 (by omega) (by omega) e t b c m d ht hc hm hd h w
    · exact print_8 o n (by omega) (by omega) e t b c m d ht hc hm hd h w
  · have h1 : ickE op n t b c m d = 1 := by
      unfold ickE at h ⊢
      split
      · rename_i h2; rw [if_pos h2] at h; exact absurd rfl h
      · rfl
    have HC := rCheck_any op n t b c m d ht hc hm hd
    rw [h1] at HC
    have HC : Hid (∀ w, _) := HC
    rw [prtL, if_neg h, h1]
    clear h h1 ht hc hm hd hn1 hn2
    go_enter Tryd.func16, Tryd.ntmps16
    go_wp2_with (go_at_call 14; refine (HC.out _).mono ?_; rintro e w1 ⟨rfl, hb1⟩)
    exact bodyPost_ret (v := .tuple #[.string ⟨#[]⟩, .int .i64 1]) (by simp [results, Tryd.results16, go_sem, *]) rfl ⟨rfl, Below.step ((Below.refl _ _).alloc (Nat.le_refl _) _) hb1⟩

end Go.Proofs.YtijlipllahfakaaDoor

namespace Go.Proofs.YtijlipllahfakaaDoor
open Go.RowKit

set_option maxRecDepth 100000 in
set_option maxHeartbeats 1000000 in
theorem rWord_any (op : Int) (w : World) : Calls Tryd.prog 10 #[.int .i64 op] w fun e w' => e = .returned (.tuple #[.string ⟨(wrdL op).toArray⟩, .int .i64 (wrdE op)]) ∧ Below w.heap.size w w' := by
  cases h : opB op with
  | false =>
    have e1 : wrdL op = [] := by rw [wrdL, h]; rfl
    have e2 : wrdE op = 2 := by rw [wrdE, h]; rfl
    rw [e1, e2]
    have hh : op < 1 ∨ 40 < op := by
      by_cases hx : 1 ≤ op ∧ op ≤ 40
      · rw [(opB_at op).2 hx] at h; cases h
      · omega
    clear h e1 e2
    rcases hh with h1 | h1
    · go_enter Tryd.func10, Tryd.ntmps10
      go_wp2
      exact bodyPost_ret (v := .tuple #[.string ⟨#[]⟩, .int .i64 2]) (by simp [results, Tryd.results10, go_sem, *]) rfl ⟨rfl, Below.refl _ _⟩
    · have h2 : ¬ op < 1 := by omega
      go_enter Tryd.func10, Tryd.ntmps10
      go_wp2
      exact bodyPost_ret (v := .tuple #[.string ⟨#[]⟩, .int .i64 2]) (by simp [results, Tryd.results10, go_sem, *]) rfl ⟨rfl, Below.refl _ _⟩
  | true =>
    obtain ⟨h1, h2⟩ := (opB_at op).1 h
    obtain ⟨k, rfl⟩ : ∃ k : Nat, op = k := ⟨op.toNat, by omega⟩
    have hk : k < 41 := by omega
    obtain ⟨x, hx⟩ : ∃ x, wordsL[k]? = some x := ⟨_, List.getElem?_eq_getElem (by rw [words_size]; exact hk)⟩
    have e1 : wrdL k = x := by rw [wrdL, h, if_pos rfl, wordL, List.getD_eq_getElem?_getD, Int.toNat_natCast, hx]; rfl
    have e2 : wrdE k = 0 := by rw [wrdE, h]; rfl
    rw [e1, e2]
    have HX : Hid (wordsL[k]? = some x) := hx
    have HW : Hid (∀ w, _) := rWords_row
    have h3 : ¬ (k : Int) < 1 := by omega
    have h4 : ¬ (40 : Int) < (k : Int) := by omega
    clear h e1 e2 hx h1 h2
    go_enter Tryd.func10, Tryd.ntmps10
    go_wp2_with (go_at_call 29; refine (HW.out _).mono ?_; rintro e w1 ⟨rfl, hb1, hcw⟩; have c0 := hcw k x HX.out; clear hcw)
    exact bodyPost_ret (v := .tuple #[.string ⟨x.toArray⟩, .int .i64 0]) (by simp [results, Tryd.results10, go_sem, *]) rfl ⟨rfl, hb1⟩

theorem five_text : prtL 1 (-5) ⟨#[]⟩ false ⟨#[]⟩ ⟨#[]⟩ ⟨#[]⟩ = [105, 99, 111, 110, 115, 116, 32, 45, 53] ∧ ickE 1 (-5) ⟨#[]⟩ false ⟨#[]⟩ ⟨#[]⟩ ⟨#[]⟩ = 0 := by
  have h0 : (⟨#[]⟩ : ByteArray).toList = [] := by rw [Lib.toList_data]
  have h1 : ickE 1 (-5) ⟨#[]⟩ false ⟨#[]⟩ ⟨#[]⟩ ⟨#[]⟩ = 0 := by
    rw [ickE, show opdI 1 = 1 from rfl, noRefB, h0]; rfl
  refine ⟨?_, h1⟩
  rw [prtL, if_pos h1, show opdI 1 = 1 from rfl, restL, if_pos (.inl rfl), Lib.itoa, if_pos (by decide), dec_small (by decide)]
  rfl

set_option maxRecDepth 100000 in
set_option maxHeartbeats 1000000 in
theorem awake_any (w : World) (hG : GIn w) : Calls Tryd.prog 8 #[] w fun e w' => e = .returned (.bool true) ∧ Below w.heap.size w w' := by
  have HP : Hid (∀ w, GIn w → Calls Tryd.prog 15 #[.agg #[.int .i64 1, .int .i64 (-5), .string ⟨#[]⟩, .bool false, .string ⟨#[]⟩, .string ⟨#[]⟩, .string ⟨#[]⟩]] w fun e w' => e = .returned (.tuple #[.string ⟨#[105, 99, 111, 110, 115, 116, 32, 45, 53]⟩, .int .i64 0]) ∧ Below w.heap.size w w') := fun w h => by
    have hz : (⟨#[]⟩ : ByteArray).size ≤ maxLen := by decide
    have := oprint_any 1 (-5) (by decide) (by decide) ⟨#[]⟩ false ⟨#[]⟩ ⟨#[]⟩ ⟨#[]⟩ hz hz hz hz w h
    rw [five_text.1, five_text.2] at this
    exact this
  have HG : Hid (GIn w) := hG
  clear hG
  go_enter Tryd.func8, Tryd.ntmps8
  go_wp2_with (go_at_call 15; refine (HP.out _ HG.out).mono ?_; rintro e w1 ⟨rfl, hb1⟩)
  go_ret
  exact ⟨rfl, hb1⟩

/-- the seven cells of an instruction that lies in a block of its own -/
def Boxed (w : World) (k : Nat) (op n : Int) (t : ByteArray) (b : Bool) (c m d : ByteArray) : Prop :=
  w.cell? ⟨k, 0, none⟩ = some (.int .i64 op) ∧ w.cell? ⟨k, 1, none⟩ = some (.int .i64 n) ∧ w.cell? ⟨k, 2, none⟩ = some (.string t) ∧ w.cell? ⟨k, 3, none⟩ = some (.bool b) ∧ w.cell? ⟨k, 4, none⟩ = some (.string c) ∧ w.cell? ⟨k, 5, none⟩ = some (.string m) ∧ w.cell? ⟨k, 6, none⟩ = some (.string d)
theorem Boxed.keep {w w' : World} {N k : Nat} {op n : Int} {t : ByteArray} {b : Bool} {c m d : ByteArray} (h : Boxed w k op n t b c m d) (hb : Below N w w') (hk : k < N) : Boxed w' k op n t b c m d :=
  ⟨(hb.cell hk).trans h.1, (hb.cell hk).trans h.2.1, (hb.cell hk).trans h.2.2.1, (hb.cell hk).trans h.2.2.2.1, (hb.cell hk).trans h.2.2.2.2.1, (hb.cell hk).trans h.2.2.2.2.2.1, (hb.cell hk).trans h.2.2.2.2.2.2⟩
theorem Boxed.new (w : World) (op n : Int) (t : ByteArray) (b : Bool) (c m d : ByteArray) : Boxed (w.alloc (.cells #[.int .i64 op, .int .i64 n, .string t, .bool b, .string c, .string m, .string d] 25)) w.heap.size op n t b c m d := by
  refine ⟨?_, ?_, ?_, ?_, ?_, ?_, ?_⟩ <;> simp [go_sem]

/-- the worlds behind a law's entry: what was there is as it was, the boxed argument too -/
def LawW (w BX w' : World) : Prop := Below (w.heap.size + 1) BX w'

set_option maxRecDepth 100000 in
set_option maxHeartbeats 4000000 in
theorem CodePlays_any (op n : Int) (hn1 : -9223372036854775808 ≤ n) (hn2 : n ≤ 9223372036854775807) (t : ByteArray) (b : Bool) (c m d : ByteArray) (ht : t.size ≤ maxLen) (hc : c.size ≤ maxLen) (hm : m.size ≤ maxLen) (hd : d.size ≤ maxLen) (w : World) (hG : GIn w) : Calls Tryd.prog 3 #[.agg #[.int .i64 op, .int .i64 n, .string t, .bool b, .string c, .string m, .string d]] w fun e w' => e = .returned (.bool true) ∧ Below w.heap.size w w' := by
  obtain ⟨BX, hBX⟩ : ∃ BX, BX = w.alloc (.cells #[.int .i64 op, .int .i64 n, .string t, .bool b, .string c, .string m, .string d] 25) := ⟨_, rfl⟩
  have hBs : BX.heap.size = w.heap.size + 1 := by rw [hBX]; simp
  have HGB : Hid (GIn BX) := by rw [hBX]; exact hG.keep ((Below.refl _ _).alloc (Nat.le_refl _) _)
  have HXB : Hid (Boxed BX w.heap.size op n t b c m d) := by rw [hBX]; exact Boxed.new _ _ _ _ _ _ _ _
  have HT : Hid (∀ w' w'', LawW w BX w' → Below w'.heap.size w' w'' → LawW w BX w'') := fun w' w'' h hb => Below.trans h (hb.mono (by have := Below.size h; omega))
  have HTG : Hid (∀ w', LawW w BX w' → GIn w') := fun w' h => HGB.out.keep (by rw [hBs]; exact h)
  have HTX : Hid (∀ w', LawW w BX w' → Boxed w' w.heap.size op n t b c m d) := fun w' h => HXB.out.keep h (by omega)
  have HTB : Hid (∀ w', LawW w BX w' → Below w.heap.size w w') := fun w' h => ((show Below w.heap.size w BX by rw [hBX]; exact (Below.refl _ _).alloc (Nat.le_refl _) _)).trans (Below.mono h (by omega))
  have HT0 : Hid (LawW w BX BX) := Below.refl _ _
  have HA : Hid (∀ w', Hid (LawW w BX w') → Calls Tryd.prog 8 #[] w' fun e w'' => e = .returned (.bool true) ∧ Hid (LawW w BX w'')) := fun w' h => (awake_any w' (HTG.out w' h)).mono fun e w'' ⟨he, hb⟩ => ⟨he, HT.out _ _ h hb⟩
  have H9 : Hid (∀ w', Hid (LawW w BX w') → Calls Tryd.prog 9 #[.int .i64 op] w' fun e w'' => e = .returned (.tuple #[.string ⟨(wrdL op).toArray⟩, .int .i64 (wrdE op)]) ∧ Hid (LawW w BX w'')) := fun w' h => (word_any op w' (HTG.out w' h).1).mono fun e w'' ⟨he, hb⟩ => ⟨he, by rw [hb]; exact h⟩
  have H10 : Hid (∀ w', Hid (LawW w BX w') → Calls Tryd.prog 10 #[.int .i64 op] w' fun e w'' => e = .returned (.tuple #[.string ⟨(wrdL op).toArray⟩, .int .i64 (wrdE op)]) ∧ Hid (LawW w BX w'')) := fun w' h => (rWord_any op w').mono fun e w'' ⟨he, hb⟩ => ⟨he, HT.out _ _ h hb⟩
  have H11 : Hid (∀ w', Hid (LawW w BX w') → Calls Tryd.prog 11 #[.int .i64 op] w' fun e w'' => e = .returned (.int .i64 (opdI op)) ∧ Hid (LawW w BX w'')) := fun w' h => (operand_any op w').mono fun e w'' ⟨he, hb⟩ => ⟨he, by rw [hb]; exact h⟩
  have H12 : Hid (∀ w', Hid (LawW w BX w') → Calls Tryd.prog 12 #[.int .i64 op] w' fun e w'' => e = .returned (.int .i64 (opdI op)) ∧ Hid (LawW w BX w'')) := fun w' h => (rOperand_any op w').mono fun e w'' ⟨he, hb⟩ => ⟨he, by rw [hb]; exact h⟩
  have H13 : Hid (∀ w', Hid (LawW w BX w') → Calls Tryd.prog 13 #[.agg #[.int .i64 op, .int .i64 n, .string t, .bool b, .string c, .string m, .string d]] w' fun e w'' => e = .returned (.int .i64 (ickE op n t b c m d)) ∧ Hid (LawW w BX w'')) := fun w' h => (check_any op n t b c m d ht hc hm hd w').mono fun e w'' ⟨he, hb⟩ => ⟨he, HT.out _ _ h hb⟩
  have H14 : Hid (∀ w', Hid (LawW w BX w') → Calls Tryd.prog 14 #[.agg #[.int .i64 op, .int .i64 n, .string t, .bool b, .string c, .string m, .string d]] w' fun e w'' => e = .returned (.int .i64 (ickE op n t b c m d)) ∧ Hid (LawW w BX w'')) := fun w' h => (rCheck_any op n t b c m d ht hc hm hd w').mono fun e w'' ⟨he, hb⟩ => ⟨he, HT.out _ _ h hb⟩
  have H15 : Hid (∀ w', Hid (LawW w BX w') → Calls Tryd.prog 15 #[.agg #[.int .i64 op, .int .i64 n, .string t, .bool b, .string c, .string m, .string d]] w' fun e w'' => e = .returned (.tuple #[.string ⟨(prtL op n t b c m d).toArray⟩, .int .i64 (ickE op n t b c m d)]) ∧ Hid (LawW w BX w'')) := fun w' h => (oprint_any op n hn1 hn2 t b c m d ht hc hm hd w' (HTG.out w' h)).mono fun e w'' ⟨he, hb⟩ => ⟨he, HT.out _ _ h hb⟩
  have H16 : Hid (∀ w', Hid (LawW w BX w') → Calls Tryd.prog 16 #[.agg #[.int .i64 op, .int .i64 n, .string t, .bool b, .string c, .string m, .string d]] w' fun e w'' => e = .returned (.tuple #[.string ⟨(prtL op n t b c m d).toArray⟩, .int .i64 (ickE op n t b c m d)]) ∧ Hid (LawW w BX w'')) := fun w' h => (rPrint_any op n hn1 hn2 t b c m d ht hc hm hd w').mono fun e w'' ⟨he, hb⟩ => ⟨he, HT.out _ _ h hb⟩
  obtain ⟨σ, V, V1, V2⟩ : ∃ (σ : Type) (V : σ → World), Hid (∀ s, Hid (LawW w BX (V s))) ∧ Hid (∀ w', Hid (LawW w BX w') → ∃ s, w' = V s) :=
    ⟨{w' // Hid (LawW w BX w')}, Subtype.val, fun s => s.2, fun w q => ⟨⟨w, q⟩, rfl⟩⟩
  have hne : Nonempty σ := (V2.out _ HT0).elim fun s _ => ⟨s⟩
  have q0 : ∀ s, (V s).cell? ⟨w.heap.size, 0, none⟩ = some (.int .i64 op) := fun s => (HTX.out _ (V1.out s)).1
  have q1 : ∀ s, (V s).cell? ⟨w.heap.size, 1, none⟩ = some (.int .i64 n) := fun s => (HTX.out _ (V1.out s)).2.1
  have q2 : ∀ s, (V s).cell? ⟨w.heap.size, 2, none⟩ = some (.string t) := fun s => (HTX.out _ (V1.out s)).2.2.1
  have q3 : ∀ s, (V s).cell? ⟨w.heap.size, 3, none⟩ = some (.bool b) := fun s => (HTX.out _ (V1.out s)).2.2.2.1
  have q4 : ∀ s, (V s).cell? ⟨w.heap.size, 4, none⟩ = some (.string c) := fun s => (HTX.out _ (V1.out s)).2.2.2.2.1
  have q5 : ∀ s, (V s).cell? ⟨w.heap.size, 5, none⟩ = some (.string m) := fun s => (HTX.out _ (V1.out s)).2.2.2.2.2.1
  have q6 : ∀ s, (V s).cell? ⟨w.heap.size, 6, none⟩ = some (.string d) := fun s => (HTX.out _ (V1.out s)).2.2.2.2.2.2
  clear hG ht hc hm hd hBs HGB HXB hn1 hn2
  generalize wrdL op = wl at *
  generalize wrdE op = we at *
  generalize opdI op = ok at *
  generalize ickE op n t b c m d = ik at *
  generalize prtL op n t b c m d = pl at *
  subst hBX
  go_enter Tryd.func3, Tryd.ntmps3
  go_wp2_with (first
    | (go_at_call 8; refine (HA.out _ HT0).mono ?_; rintro e w1 ⟨rfl, hT1⟩; obtain ⟨k0, k1, k2, k3, k4, k5, k6⟩ := HTX.out _ hT1; clear HA)
    | (go_at_call 9; refine (H9.out _ hT1).mono ?_; rintro e w2 ⟨rfl, hT2⟩; obtain ⟨k0, k1, k2, k3, k4, k5, k6⟩ := HTX.out _ hT2; clear H9)
    | (go_at_call 10; refine (H10.out _ hT2).mono ?_; rintro e w3 ⟨rfl, hT3⟩; obtain ⟨k0, k1, k2, k3, k4, k5, k6⟩ := HTX.out _ hT3; clear H10))
  refine wp_region_class (C := fun w' => ∃ s, w' = V s) (by kernel_rfl) (by kernel_rfl) (V2.out _ (show Hid (LawW w _ w3.drew) from Below.drew hT3.out)) ?_
  repeat (go_big_quiet_step (first
    | (go_at_call 11; exact (H11.out _ (V1.out _)).mono fun e w'' z => ⟨z.1, V2.out _ z.2⟩)
    | (go_at_call 12; exact (H12.out _ (V1.out _)).mono fun e w'' z => ⟨z.1, V2.out _ z.2⟩)
    | (go_at_call 13; exact (H13.out _ (V1.out _)).mono fun e w'' z => ⟨z.1, V2.out _ z.2⟩)
    | (go_at_call 14; exact (H14.out _ (V1.out _)).mono fun e w'' z => ⟨z.1, V2.out _ z.2⟩)))
  refine wpQuiet_nil ?_
  intro w9 hw9
  obtain ⟨s9, rfl⟩ := hw9
  go_wp2_with (first
    | (go_at_call 15; refine (H15.out _ (V1.out s9)).mono ?_; rintro e w4 ⟨rfl, hT4⟩; obtain ⟨k0, k1, k2, k3, k4, k5, k6⟩ := HTX.out _ hT4; clear H15)
    | (go_at_call 16; refine (H16.out _ hT4).mono ?_; rintro e w5 ⟨rfl, hT5⟩; clear H16))
  go_ret
  exact ⟨rfl, HTB.out _ hT5⟩

end Go.Proofs.YtijlipllahfakaaDoor

namespace Go.Proofs.YtijlipllahfakaaDoor
open Go.RowKit


set_option maxRecDepth 100000 in
set_option maxHeartbeats 4000000 in
theorem back_11 (xo xn : Int) (xt : ByteArray) (xb : Bool) (xc xm xd : ByteArray) (line PX : ByteArray) (yo yn : Int) (yt : ByteArray) (yb : Bool) (yc ym yd WX : ByteArray) (w BX : World) (hBX : BX = w.alloc (.cells #[.int .i64 xo, .int .i64 xn, .string xt, .bool xb, .string xc, .string xm, .string xd] 25))
    (HA : ∀ w', LawW w BX w' → Calls Tryd.prog 8 #[] w' fun e w'' => e = .returned (.bool true) ∧ LawW w BX w'')
    (H15 : ∀ w', LawW w BX w' → Calls Tryd.prog 15 #[.agg #[.int .i64 xo, .int .i64 xn, .string xt, .bool xb, .string xc, .string xm, .string xd]] w' fun e w'' => e = .returned (.tuple #[.string PX, .int .i64 0]) ∧ LawW w BX w'')
    (H13 : ∀ w', LawW w BX w' → Calls Tryd.prog 13 #[.agg #[.int .i64 xo, .int .i64 xn, .string xt, .bool xb, .string xc, .string xm, .string xd]] w' fun e w'' => e = .returned (.int .i64 0) ∧ LawW w BX w'')
    (H26 : ∀ w', LawW w BX w' → Calls Tryd.prog 26 #[.string PX] w' fun e w'' => e = .returned (.tuple #[.agg #[.int .i64 xo, .int .i64 xn, .string xt, .bool xb, .string xc, .string xm, .string xd], .int .i64 0]) ∧ LawW w BX w'')
    (H27 : ∀ w', LawW w BX w' → Calls Tryd.prog 27 #[.agg #[.int .i64 xo, .int .i64 xn, .string xt, .bool xb, .string xc, .string xm, .string xd], .agg #[.int .i64 xo, .int .i64 xn, .string xt, .bool xb, .string xc, .string xm, .string xd]] w' fun e w'' => e = .returned (.bool true) ∧ LawW w BX w'')
    (G26 : ∀ w', LawW w BX w' → Calls Tryd.prog 26 #[.string line] w' fun e w'' => e = .returned (.tuple #[.agg #[.int .i64 yo, .int .i64 yn, .string yt, .bool yb, .string yc, .string ym, .string yd], .int .i64 0]) ∧ LawW w BX w'')
    (G15 : ∀ w' : World, LawW w BX w' → Calls Tryd.prog 15 #[.agg #[.int .i64 yo, .int .i64 yn, .string yt, .bool yb, .string yc, .string ym, .string yd]] w' fun e w'' => e = .returned (.tuple #[.string line, .int .i64 0]) ∧ Below w'.heap.size w' w'')
    (G9 : ∀ w', LawW w BX w' → Calls Tryd.prog 9 #[.int .i64 yo] w' fun e w'' => e = .returned (.tuple #[.string WX, .int .i64 0]) ∧ w'' = w')
    (G13 : ∀ w', LawW w BX w' → Calls Tryd.prog 13 #[.agg #[.int .i64 yo, .int .i64 yn, .string yt, .bool yb, .string yc, .string ym, .string yd]] w' fun e w'' => e = .returned (.int .i64 0) ∧ LawW w BX w'')
    (hWl : WX.size ≤ line.size) (_hll : line.size ≤ 9223372036854775807) (hWe : ((line.extract 0 WX.size).toList == WX.toList) = true) : Calls Tryd.prog 6 #[.agg #[.int .i64 xo, .int .i64 xn, .string xt, .bool xb, .string xc, .string xm, .string xd], .string line] w fun e w' => e = .returned (.bool true) ∧ Below w.heap.size w w' := by
  have hBs : BX.heap.size = w.heap.size + 1 := by rw [hBX]; simp
  have HXB : Hid (Boxed BX w.heap.size xo xn xt xb xc xm xd) := by rw [hBX]; exact Boxed.new _ _ _ _ _ _ _ _
  have HT : Hid (∀ w' w'', LawW w BX w' → Below w'.heap.size w' w'' → LawW w BX w'') := fun w' w'' h hb => Below.trans h (hb.mono (by have := Below.size h; omega))
  have HTA : Hid (∀ w' o, LawW w BX w' → LawW w BX (w'.alloc o)) := fun w' o h => HT.out _ _ h ((Below.refl _ _).alloc (Nat.le_refl _) _)
  have HTX : Hid (∀ w', LawW w BX w' → Boxed w' w.heap.size xo xn xt xb xc xm xd) := fun w' h => HXB.out.keep h (by omega)
  have HTS : Hid (∀ w', LawW w BX w' → w.heap.size < w'.heap.size) := fun w' h => by have := Below.size h; omega
  have HTB : Hid (∀ w', LawW w BX w' → Below w.heap.size w w') := fun w' h => ((show Below w.heap.size w BX by rw [hBX]; exact (Below.refl _ _).alloc (Nat.le_refl _) _)).trans (Below.mono h (by omega))
  have HT0 : Hid (LawW w BX BX) := Below.refl _ _
  have HA : Hid (∀ w' : World, _ → _) := HA
  have H15 : Hid (∀ w' : World, _ → _) := H15
  have H13 : Hid (∀ w' : World, _ → _) := H13
  have H26 : Hid (∀ w' : World, _ → _) := H26
  have H27 : Hid (∀ w' : World, _ → _) := H27
  have G26 : Hid (∀ w' : World, _ → _) := G26
  have G15 : Hid (∀ w' : World, _ → _) := G15
  have G9 : Hid (∀ w' : World, _ → _) := G9
  have G13 : Hid (∀ w' : World, _ → _) := G13
  have hll2 : (line.toList == line.toList) = true := by simp
  clear hBs HXB
  subst hBX
  go_enter Tryd.func6, Tryd.ntmps6
  go_wp2_with (first
    | (go_at_call 8; refine (HA.out _ HT0.out).mono ?_; rintro e w1 ⟨rfl, hT1⟩; obtain ⟨k0, k1, k2, k3, k4, k5, k6⟩ := HTX.out _ hT1; clear HA)
    | (go_at_call 15; refine (H15.out _ hT1).mono ?_; rintro e w2 ⟨rfl, hT2⟩; obtain ⟨k0, k1, k2, k3, k4, k5, k6⟩ := HTX.out _ hT2; clear H15)
    | (go_at_call 13; refine (H13.out _ hT2).mono ?_; rintro e w3 ⟨rfl, hT3⟩; obtain ⟨k0, k1, k2, k3, k4, k5, k6⟩ := HTX.out _ hT3; clear H13)
    | (go_at_call 26; refine (H26.out _ hT3).mono ?_; rintro e w4 ⟨rfl, hT4⟩; obtain ⟨k0, k1, k2, k3, k4, k5, k6⟩ := HTX.out _ hT4; have hs4 := HTS.out _ hT4; clear H26)
    | (go_at_call 27; refine (H27.out _ (HTA.out _ _ hT4)).mono ?_; rintro e w5 ⟨rfl, hT5⟩; clear H27)
    | (go_at_call 26; refine (G26.out _ hT5).mono ?_; rintro e w6 ⟨rfl, hT6⟩; have hs6 := HTS.out _ hT6; clear G26)
    | (go_at_call 15; refine (G15.out _ (HTA.out _ _ hT6)).mono ?_; rintro e w7 ⟨rfl, hb7⟩; have j0 : w7.cell? ⟨w6.heap.size, 0, none⟩ = some (.int .i64 yo) := (hb7.cell (p := ⟨w6.heap.size, 0, none⟩) (by simp)).trans (by simp [go_sem, *]); have j1 : w7.cell? ⟨w6.heap.size, 1, none⟩ = some (.int .i64 yn) := (hb7.cell (p := ⟨w6.heap.size, 1, none⟩) (by simp)).trans (by simp [go_sem, *]); have j2 : w7.cell? ⟨w6.heap.size, 2, none⟩ = some (.string yt) := (hb7.cell (p := ⟨w6.heap.size, 2, none⟩) (by simp)).trans (by simp [go_sem, *]); have j3 : w7.cell? ⟨w6.heap.size, 3, none⟩ = some (.bool yb) := (hb7.cell (p := ⟨w6.heap.size, 3, none⟩) (by simp)).trans (by simp [go_sem, *]); have j4 : w7.cell? ⟨w6.heap.size, 4, none⟩ = some (.string yc) := (hb7.cell (p := ⟨w6.heap.size, 4, none⟩) (by simp)).trans (by simp [go_sem, *]); have j5 : w7.cell? ⟨w6.heap.size, 5, none⟩ = some (.string ym) := (hb7.cell (p := ⟨w6.heap.size, 5, none⟩) (by simp)).trans (by simp [go_sem, *]); have j6 : w7.cell? ⟨w6.heap.size, 6, none⟩ = some (.string yd) := (hb7.cell (p := ⟨w6.heap.size, 6, none⟩) (by simp)).trans (by simp [go_sem, *]); have hT7 := HT.out _ _ (HTA.out _ _ hT6) hb7; clear hb7 G15)
    | (go_at_call 9; refine (G9.out _ hT7).mono ?_; rintro e w8 ⟨rfl, hw8⟩; rw [hw8]; clear hw8 G9)
    | (go_at_call 13; refine (G13.out _ hT7).mono ?_; rintro e w9 ⟨rfl, hT9⟩; clear G13))
  go_ret
  exact ⟨rfl, HTB.out _ hT9⟩

set_option maxRecDepth 100000 in
set_option maxHeartbeats 4000000 in
theorem back_10 (xo xn : Int) (xt : ByteArray) (xb : Bool) (xc xm xd : ByteArray) (line PX : ByteArray) (w BX : World) (hBX : BX = w.alloc (.cells #[.int .i64 xo, .int .i64 xn, .string xt, .bool xb, .string xc, .string xm, .string xd] 25))
    (HA : ∀ w', LawW w BX w' → Calls Tryd.prog 8 #[] w' fun e w'' => e = .returned (.bool true) ∧ LawW w BX w'')
    (H15 : ∀ w', LawW w BX w' → Calls Tryd.prog 15 #[.agg #[.int .i64 xo, .int .i64 xn, .string xt, .bool xb, .string xc, .string xm, .string xd]] w' fun e w'' => e = .returned (.tuple #[.string PX, .int .i64 0]) ∧ LawW w BX w'')
    (H13 : ∀ w', LawW w BX w' → Calls Tryd.prog 13 #[.agg #[.int .i64 xo, .int .i64 xn, .string xt, .bool xb, .string xc, .string xm, .string xd]] w' fun e w'' => e = .returned (.int .i64 0) ∧ LawW w BX w'')
    (H26 : ∀ w', LawW w BX w' → Calls Tryd.prog 26 #[.string PX] w' fun e w'' => e = .returned (.tuple #[.agg #[.int .i64 xo, .int .i64 xn, .string xt, .bool xb, .string xc, .string xm, .string xd], .int .i64 0]) ∧ LawW w BX w'')
    (H27 : ∀ w', LawW w BX w' → Calls Tryd.prog 27 #[.agg #[.int .i64 xo, .int .i64 xn, .string xt, .bool xb, .string xc, .string xm, .string xd], .agg #[.int .i64 xo, .int .i64 xn, .string xt, .bool xb, .string xc, .string xm, .string xd]] w' fun e w'' => e = .returned (.bool true) ∧ LawW w BX w'')
    (G26 : ∀ w', LawW w BX w' → Calls Tryd.prog 26 #[.string line] w' fun e w'' => e = .returned (.tuple #[.agg #[.int .i64 0, .int .i64 0, .string ⟨#[]⟩, .bool false, .string ⟨#[]⟩, .string ⟨#[]⟩, .string ⟨#[]⟩], .int .i64 4]) ∧ LawW w BX w'')
    (G27 : ∀ w', LawW w BX w' → Calls Tryd.prog 27 #[.agg #[.int .i64 0, .int .i64 0, .string ⟨#[]⟩, .bool false, .string ⟨#[]⟩, .string ⟨#[]⟩, .string ⟨#[]⟩], .agg #[.int .i64 0, .int .i64 0, .string ⟨#[]⟩, .bool false, .string ⟨#[]⟩, .string ⟨#[]⟩, .string ⟨#[]⟩]] w' fun e w'' => e = .returned (.bool true) ∧ LawW w BX w'') : Calls Tryd.prog 6 #[.agg #[.int .i64 xo, .int .i64 xn, .string xt, .bool xb, .string xc, .string xm, .string xd], .string line] w fun e w' => e = .returned (.bool true) ∧ Below w.heap.size w w' := by
  have hBs : BX.heap.size = w.heap.size + 1 := by rw [hBX]; simp
  have HXB : Hid (Boxed BX w.heap.size xo xn xt xb xc xm xd) := by rw [hBX]; exact Boxed.new _ _ _ _ _ _ _ _
  have HT : Hid (∀ w' w'', LawW w BX w' → Below w'.heap.size w' w'' → LawW w BX w'') := fun w' w'' h hb => Below.trans h (hb.mono (by have := Below.size h; omega))
  have HTA : Hid (∀ w' o, LawW w BX w' → LawW w BX (w'.alloc o)) := fun w' o h => HT.out _ _ h ((Below.refl _ _).alloc (Nat.le_refl _) _)
  have HTX : Hid (∀ w', LawW w BX w' → Boxed w' w.heap.size xo xn xt xb xc xm xd) := fun w' h => HXB.out.keep h (by omega)
  have HTS : Hid (∀ w', LawW w BX w' → w.heap.size < w'.heap.size) := fun w' h => by have := Below.size h; omega
  have HTB : Hid (∀ w', LawW w BX w' → Below w.heap.size w w') := fun w' h => ((show Below w.heap.size w BX by rw [hBX]; exact (Below.refl _ _).alloc (Nat.le_refl _) _)).trans (Below.mono h (by omega))
  have HT0 : Hid (LawW w BX BX) := Below.refl _ _
  have HA : Hid (∀ w' : World, _ → _) := HA
  have H15 : Hid (∀ w' : World, _ → _) := H15
  have H13 : Hid (∀ w' : World, _ → _) := H13
  have H26 : Hid (∀ w' : World, _ → _) := H26
  have H27 : Hid (∀ w' : World, _ → _) := H27
  have G26 : Hid (∀ w' : World, _ → _) := G26
  have G27 : Hid (∀ w' : World, _ → _) := G27

  clear hBs HXB
  subst hBX
  go_enter Tryd.func6, Tryd.ntmps6
  go_wp2_with (first
    | (go_at_call 8; refine (HA.out _ HT0.out).mono ?_; rintro e w1 ⟨rfl, hT1⟩; obtain ⟨k0, k1, k2, k3, k4, k5, k6⟩ := HTX.out _ hT1; clear HA)
    | (go_at_call 15; refine (H15.out _ hT1).mono ?_; rintro e w2 ⟨rfl, hT2⟩; obtain ⟨k0, k1, k2, k3, k4, k5, k6⟩ := HTX.out _ hT2; clear H15)
    | (go_at_call 13; refine (H13.out _ hT2).mono ?_; rintro e w3 ⟨rfl, hT3⟩; obtain ⟨k0, k1, k2, k3, k4, k5, k6⟩ := HTX.out _ hT3; clear H13)
    | (go_at_call 26; refine (H26.out _ hT3).mono ?_; rintro e w4 ⟨rfl, hT4⟩; obtain ⟨k0, k1, k2, k3, k4, k5, k6⟩ := HTX.out _ hT4; have hs4 := HTS.out _ hT4; clear H26)
    | (go_at_call 27; refine (H27.out _ (HTA.out _ _ hT4)).mono ?_; rintro e w5 ⟨rfl, hT5⟩; clear H27)
    | (go_at_call 26; refine (G26.out _ hT5).mono ?_; rintro e w6 ⟨rfl, hT6⟩; have hs6 := HTS.out _ hT6; clear G26)
    | (go_at_call 27; refine (G27.out _ (HTA.out _ _ hT6)).mono ?_; rintro e w7 ⟨rfl, hT7⟩; clear G27))
  go_ret
  exact ⟨rfl, HTB.out _ hT7⟩

set_option maxRecDepth 100000 in
set_option maxHeartbeats 4000000 in
theorem back_01 (xo xn : Int) (xt : ByteArray) (xb : Bool) (xc xm xd : ByteArray) (line PX : ByteArray) (yo yn : Int) (yt : ByteArray) (yb : Bool) (yc ym yd WX : ByteArray) (w BX : World) (hBX : BX = w.alloc (.cells #[.int .i64 xo, .int .i64 xn, .string xt, .bool xb, .string xc, .string xm, .string xd] 25))
    (HA : ∀ w', LawW w BX w' → Calls Tryd.prog 8 #[] w' fun e w'' => e = .returned (.bool true) ∧ LawW w BX w'')
    (H15 : ∀ w', LawW w BX w' → Calls Tryd.prog 15 #[.agg #[.int .i64 xo, .int .i64 xn, .string xt, .bool xb, .string xc, .string xm, .string xd]] w' fun e w'' => e = .returned (.tuple #[.string PX, .int .i64 1]) ∧ LawW w BX w'')
    (H13 : ∀ w', LawW w BX w' → Calls Tryd.prog 13 #[.agg #[.int .i64 xo, .int .i64 xn, .string xt, .bool xb, .string xc, .string xm, .string xd]] w' fun e w'' => e = .returned (.int .i64 1) ∧ LawW w BX w'')
    (G26 : ∀ w', LawW w BX w' → Calls Tryd.prog 26 #[.string line] w' fun e w'' => e = .returned (.tuple #[.agg #[.int .i64 yo, .int .i64 yn, .string yt, .bool yb, .string yc, .string ym, .string yd], .int .i64 0]) ∧ LawW w BX w'')
    (G15 : ∀ w' : World, LawW w BX w' → Calls Tryd.prog 15 #[.agg #[.int .i64 yo, .int .i64 yn, .string yt, .bool yb, .string yc, .string ym, .string yd]] w' fun e w'' => e = .returned (.tuple #[.string line, .int .i64 0]) ∧ Below w'.heap.size w' w'')
    (G9 : ∀ w', LawW w BX w' → Calls Tryd.prog 9 #[.int .i64 yo] w' fun e w'' => e = .returned (.tuple #[.string WX, .int .i64 0]) ∧ w'' = w')
    (G13 : ∀ w', LawW w BX w' → Calls Tryd.prog 13 #[.agg #[.int .i64 yo, .int .i64 yn, .string yt, .bool yb, .string yc, .string ym, .string yd]] w' fun e w'' => e = .returned (.int .i64 0) ∧ LawW w BX w'')
    (hWl : WX.size ≤ line.size) (_hll : line.size ≤ 9223372036854775807) (hWe : ((line.extract 0 WX.size).toList == WX.toList) = true) : Calls Tryd.prog 6 #[.agg #[.int .i64 xo, .int .i64 xn, .string xt, .bool xb, .string xc, .string xm, .string xd], .string line] w fun e w' => e = .returned (.bool true) ∧ Below w.heap.size w w' := by
  have hBs : BX.heap.size = w.heap.size + 1 := by rw [hBX]; simp
  have HXB : Hid (Boxed BX w.heap.size xo xn xt xb xc xm xd) := by rw [hBX]; exact Boxed.new _ _ _ _ _ _ _ _
  have HT : Hid (∀ w' w'', LawW w BX w' → Below w'.heap.size w' w'' → LawW w BX w'') := fun w' w'' h hb => Below.trans h (hb.mono (by have := Below.size h; omega))
  have HTA : Hid (∀ w' o, LawW w BX w' → LawW w BX (w'.alloc o)) := fun w' o h => HT.out _ _ h ((Below.refl _ _).alloc (Nat.le_refl _) _)
  have HTX : Hid (∀ w', LawW w BX w' → Boxed w' w.heap.size xo xn xt xb xc xm xd) := fun w' h => HXB.out.keep h (by omega)
  have HTS : Hid (∀ w', LawW w BX w' → w.heap.size < w'.heap.size) := fun w' h => by have := Below.size h; omega
  have HTB : Hid (∀ w', LawW w BX w' → Below w.heap.size w w') := fun w' h => ((show Below w.heap.size w BX by rw [hBX]; exact (Below.refl _ _).alloc (Nat.le_refl _) _)).trans (Below.mono h (by omega))
  have HT0 : Hid (LawW w BX BX) := Below.refl _ _
  have HA : Hid (∀ w' : World, _ → _) := HA
  have H15 : Hid (∀ w' : World, _ → _) := H15
  have H13 : Hid (∀ w' : World, _ → _) := H13
  have G26 : Hid (∀ w' : World, _ → _) := G26
  have G15 : Hid (∀ w' : World, _ → _) := G15
  have G9 : Hid (∀ w' : World, _ → _) := G9
  have G13 : Hid (∀ w' : World, _ → _) := G13
  have hll2 : (line.toList == line.toList) = true := by simp
  clear hBs HXB
  subst hBX
  go_enter Tryd.func6, Tryd.ntmps6
  go_wp2_with (first
    | (go_at_call 8; refine (HA.out _ HT0.out).mono ?_; rintro e w1 ⟨rfl, hT1⟩; obtain ⟨k0, k1, k2, k3, k4, k5, k6⟩ := HTX.out _ hT1; clear HA)
    | (go_at_call 15; refine (H15.out _ hT1).mono ?_; rintro e w2 ⟨rfl, hT2⟩; obtain ⟨k0, k1, k2, k3, k4, k5, k6⟩ := HTX.out _ hT2; clear H15)
    | (go_at_call 13; refine (H13.out _ hT2).mono ?_; rintro e w3 ⟨rfl, hT3⟩; obtain ⟨k0, k1, k2, k3, k4, k5, k6⟩ := HTX.out _ hT3; clear H13)
    | (go_at_call 26; refine (G26.out _ hT3).mono ?_; rintro e w6 ⟨rfl, hT6⟩; have hs6 := HTS.out _ hT6; clear G26)
    | (go_at_call 15; refine (G15.out _ (HTA.out _ _ hT6)).mono ?_; rintro e w7 ⟨rfl, hb7⟩; have j0 : w7.cell? ⟨w6.heap.size, 0, none⟩ = some (.int .i64 yo) := (hb7.cell (p := ⟨w6.heap.size, 0, none⟩) (by simp)).trans (by simp [go_sem, *]); have j1 : w7.cell? ⟨w6.heap.size, 1, none⟩ = some (.int .i64 yn) := (hb7.cell (p := ⟨w6.heap.size, 1, none⟩) (by simp)).trans (by simp [go_sem, *]); have j2 : w7.cell? ⟨w6.heap.size, 2, none⟩ = some (.string yt) := (hb7.cell (p := ⟨w6.heap.size, 2, none⟩) (by simp)).trans (by simp [go_sem, *]); have j3 : w7.cell? ⟨w6.heap.size, 3, none⟩ = some (.bool yb) := (hb7.cell (p := ⟨w6.heap.size, 3, none⟩) (by simp)).trans (by simp [go_sem, *]); have j4 : w7.cell? ⟨w6.heap.size, 4, none⟩ = some (.string yc) := (hb7.cell (p := ⟨w6.heap.size, 4, none⟩) (by simp)).trans (by simp [go_sem, *]); have j5 : w7.cell? ⟨w6.heap.size, 5, none⟩ = some (.string ym) := (hb7.cell (p := ⟨w6.heap.size, 5, none⟩) (by simp)).trans (by simp [go_sem, *]); have j6 : w7.cell? ⟨w6.heap.size, 6, none⟩ = some (.string yd) := (hb7.cell (p := ⟨w6.heap.size, 6, none⟩) (by simp)).trans (by simp [go_sem, *]); have hT7 := HT.out _ _ (HTA.out _ _ hT6) hb7; clear hb7 G15)
    | (go_at_call 9; refine (G9.out _ hT7).mono ?_; rintro e w8 ⟨rfl, hw8⟩; rw [hw8]; clear hw8 G9)
    | (go_at_call 13; refine (G13.out _ hT7).mono ?_; rintro e w9 ⟨rfl, hT9⟩; clear G13))
  go_ret
  exact ⟨rfl, HTB.out _ hT9⟩

set_option maxRecDepth 100000 in
set_option maxHeartbeats 4000000 in
theorem back_00 (xo xn : Int) (xt : ByteArray) (xb : Bool) (xc xm xd : ByteArray) (line PX : ByteArray) (w BX : World) (hBX : BX = w.alloc (.cells #[.int .i64 xo, .int .i64 xn, .string xt, .bool xb, .string xc, .string xm, .string xd] 25))
    (HA : ∀ w', LawW w BX w' → Calls Tryd.prog 8 #[] w' fun e w'' => e = .returned (.bool true) ∧ LawW w BX w'')
    (H15 : ∀ w', LawW w BX w' → Calls Tryd.prog 15 #[.agg #[.int .i64 xo, .int .i64 xn, .string xt, .bool xb, .string xc, .string xm, .string xd]] w' fun e w'' => e = .returned (.tuple #[.string PX, .int .i64 1]) ∧ LawW w BX w'')
    (H13 : ∀ w', LawW w BX w' → Calls Tryd.prog 13 #[.agg #[.int .i64 xo, .int .i64 xn, .string xt, .bool xb, .string xc, .string xm, .string xd]] w' fun e w'' => e = .returned (.int .i64 1) ∧ LawW w BX w'')
    (G26 : ∀ w', LawW w BX w' → Calls Tryd.prog 26 #[.string line] w' fun e w'' => e = .returned (.tuple #[.agg #[.int .i64 0, .int .i64 0, .string ⟨#[]⟩, .bool false, .string ⟨#[]⟩, .string ⟨#[]⟩, .string ⟨#[]⟩], .int .i64 4]) ∧ LawW w BX w'')
    (G27 : ∀ w', LawW w BX w' → Calls Tryd.prog 27 #[.agg #[.int .i64 0, .int .i64 0, .string ⟨#[]⟩, .bool false, .string ⟨#[]⟩, .string ⟨#[]⟩, .string ⟨#[]⟩], .agg #[.int .i64 0, .int .i64 0, .string ⟨#[]⟩, .bool false, .string ⟨#[]⟩, .string ⟨#[]⟩, .string ⟨#[]⟩]] w' fun e w'' => e = .returned (.bool true) ∧ LawW w BX w'') : Calls Tryd.prog 6 #[.agg #[.int .i64 xo, .int .i64 xn, .string xt, .bool xb, .string xc, .string xm, .string xd], .string line] w fun e w' => e = .returned (.bool true) ∧ Below w.heap.size w w' := by
  have hBs : BX.heap.size = w.heap.size + 1 := by rw [hBX]; simp
  have HXB : Hid (Boxed BX w.heap.size xo xn xt xb xc xm xd) := by rw [hBX]; exact Boxed.new _ _ _ _ _ _ _ _
  have HT : Hid (∀ w' w'', LawW w BX w' → Below w'.heap.size w' w'' → LawW w BX w'') := fun w' w'' h hb => Below.trans h (hb.mono (by have := Below.size h; omega))
  have HTA : Hid (∀ w' o, LawW w BX w' → LawW w BX (w'.alloc o)) := fun w' o h => HT.out _ _ h ((Below.refl _ _).alloc (Nat.le_refl _) _)
  have HTX : Hid (∀ w', LawW w BX w' → Boxed w' w.heap.size xo xn xt xb xc xm xd) := fun w' h => HXB.out.keep h (by omega)
  have HTS : Hid (∀ w', LawW w BX w' → w.heap.size < w'.heap.size) := fun w' h => by have := Below.size h; omega
  have HTB : Hid (∀ w', LawW w BX w' → Below w.heap.size w w') := fun w' h => ((show Below w.heap.size w BX by rw [hBX]; exact (Below.refl _ _).alloc (Nat.le_refl _) _)).trans (Below.mono h (by omega))
  have HT0 : Hid (LawW w BX BX) := Below.refl _ _
  have HA : Hid (∀ w' : World, _ → _) := HA
  have H15 : Hid (∀ w' : World, _ → _) := H15
  have H13 : Hid (∀ w' : World, _ → _) := H13
  have G26 : Hid (∀ w' : World, _ → _) := G26
  have G27 : Hid (∀ w' : World, _ → _) := G27

  clear hBs HXB
  subst hBX
  go_enter Tryd.func6, Tryd.ntmps6
  go_wp2_with (first
    | (go_at_call 8; refine (HA.out _ HT0.out).mono ?_; rintro e w1 ⟨rfl, hT1⟩; obtain ⟨k0, k1, k2, k3, k4, k5, k6⟩ := HTX.out _ hT1; clear HA)
    | (go_at_call 15; refine (H15.out _ hT1).mono ?_; rintro e w2 ⟨rfl, hT2⟩; obtain ⟨k0, k1, k2, k3, k4, k5, k6⟩ := HTX.out _ hT2; clear H15)
    | (go_at_call 13; refine (H13.out _ hT2).mono ?_; rintro e w3 ⟨rfl, hT3⟩; obtain ⟨k0, k1, k2, k3, k4, k5, k6⟩ := HTX.out _ hT3; clear H13)
    | (go_at_call 26; refine (G26.out _ hT3).mono ?_; rintro e w6 ⟨rfl, hT6⟩; have hs6 := HTS.out _ hT6; clear G26)
    | (go_at_call 27; refine (G27.out _ (HTA.out _ _ hT6)).mono ?_; rintro e w7 ⟨rfl, hT7⟩; clear G27))
  go_ret
  exact ⟨rfl, HTB.out _ hT7⟩

def InsW' (i : Ins) : Prop := (-9223372036854775808 ≤ i.n ∧ i.n ≤ 9223372036854775807) ∧ InsOK i
theorem own_ok (s : ByteArray) (hs : s.size ≤ maxLen) {j : Ins} (h : ownP s.data.toList = some j) : InsW' j := by
  have hr := rdI_ok ((opOf (cutA s.data.toList) : Nat) : Int) ⟨(cutB s.data.toList).toArray⟩ (Nat.le_trans (piece_size s _ (cutB_len _)) hs)
  unfold ownP at h
  split at h
  · rw [← Option.some.inj h]
    exact hr
  · cases h
theorem prt_size {i : Ins} (h : ickI i = 0) : (⟨(prtI i).toArray⟩ : ByteArray).size ≤ 140737488351232 := by
  have h2 : i.t.size ≤ 2000 := ick_type h
  have hw := word_len i.op
  have hrx := rtx_size i.b i.c.data.toList i.m.data.toList i.d.data.toList
  rw [mk_size] at hrx
  have hl : i.t.data.toList.length = i.t.size := by simp
  have hr : (restL (opdI i.op) i.n i.t.data.toList (rtxL i.b i.c.data.toList i.m.data.toList i.d.data.toList)).length ≤ 8000 := by
    rcases sound_shape h with ⟨hk, _⟩ | ⟨hk, hn, _⟩ | ⟨hk, _, _⟩ | ⟨hk, hn, _, _⟩ | ⟨hk, _, _⟩
    · rw [hk]; show ([] : List UInt8).length ≤ 8000; simp
    · rw [restL, if_pos hk]
      have := Lib.itoa_length_le i.n (by omega) (by omega)
      rw [List.length_cons]; omega
    · rw [restL, if_neg (by omega), if_pos hk, List.length_cons]; omega
    · rw [restL, if_neg (by omega), if_neg (by omega), if_pos hk]
      have := Lib.itoa_length_le i.n (by omega) (by omega)
      rw [List.length_cons, List.length_append, List.length_cons]; omega
    · rw [restL, if_neg (by omega), if_neg (by omega), if_neg (by omega), if_pos hk, List.length_cons]; omega
  rw [mk_size, prt_form h, List.length_append]
  omega

theorem word_ahead {i : Ins} (h : ickI i = 0) : wordL i.op = (prtI i).take (wordL i.op).length ∧ (wordL i.op).length ≤ (prtI i).length := by
  rw [prt_form h]
  exact ⟨by rw [List.take_left], by rw [List.length_append]; omega⟩

theorem CodeBack_any (i : Ins) (hi : InsW' i) (line : ByteArray) (hz : line.size ≤ 140737488351232) (w : World) (hG : GIn w) (hW : WordsRow w) (hE : EIn w) : Calls Tryd.prog 6 #[insV i, .string line] w fun e w' => e = .returned (.bool true) ∧ Below w.heap.size w w' := by
  obtain ⟨BX, hBX⟩ : ∃ BX, BX = w.alloc (.cells (insC i).toArray 25) := ⟨_, rfl⟩
  have hBs : BX.heap.size = w.heap.size + 1 := by rw [hBX]; simp
  have hB0 : Below w.heap.size w BX := by rw [hBX]; exact (Below.refl _ _).alloc (Nat.le_refl _) _
  have HT : ∀ w' w'', LawW w BX w' → Below w'.heap.size w' w'' → LawW w BX w'' := fun w' w'' h hb => Below.trans h (hb.mono (by have := Below.size h; omega))
  have HB : ∀ w', LawW w BX w' → Below w.heap.size w w' := fun w' h => hB0.trans (Below.mono h (by omega))
  have HA : ∀ w', LawW w BX w' → Calls Tryd.prog 8 #[] w' fun e w'' => e = .returned (.bool true) ∧ LawW w BX w'' := fun w' h => (awake_any w' (hG.keep (HB w' h))).mono fun e w'' ⟨he, hb⟩ => ⟨he, HT _ _ h hb⟩
  obtain ⟨⟨n1, n2⟩, k1, k2, k3, k4⟩ := hi
  have H15 : ∀ w', LawW w BX w' → Calls Tryd.prog 15 #[insV i] w' fun e w'' => e = .returned (.tuple #[.string ⟨(prtI i).toArray⟩, .int .i64 (ickI i)]) ∧ LawW w BX w'' := fun w' h => (oprint_any i.op i.n n1 n2 i.t i.b i.c i.m i.d k1 k2 k3 k4 w' (hG.keep (HB w' h))).mono fun e w'' ⟨he, hb⟩ => ⟨he, HT _ _ h hb⟩
  have H13 : ∀ w', LawW w BX w' → Calls Tryd.prog 13 #[insV i] w' fun e w'' => e = .returned (.int .i64 (ickI i)) ∧ LawW w BX w'' := fun w' h => (check_any i.op i.n i.t i.b i.c i.m i.d k1 k2 k3 k4 w').mono fun e w'' ⟨he, hb⟩ => ⟨he, HT _ _ h hb⟩
  have HP : ∀ x : ByteArray, x.size ≤ 140737488351232 → ∀ w', LawW w BX w' → Calls Tryd.prog 26 #[.string x] w' fun e w'' => e = .returned (outI (ownP x.data.toList)) ∧ LawW w BX w'' := fun x hx w' h => (oparse_any x hx w' (hG.keep (HB w' h)) (hW.keep (HB w' h)) (hE.keep (HB w' h))).mono fun e w'' ⟨he, hb⟩ => ⟨he, HT _ _ h hb⟩
  have HS : ∀ j : Ins, ∀ w', LawW w BX w' → Calls Tryd.prog 27 #[insV j, insV j] w' fun e w'' => e = .returned (.bool true) ∧ LawW w BX w'' := fun j w' h => by
    have := rSame_any j.op j.n j.t j.b j.c j.m j.d j.op j.n j.t j.b j.c j.m j.d w'
    rw [r_self] at this
    simp only [beq_self_eq_true, Bool.true_and] at this
    exact this.mono fun e w'' ⟨he, hb⟩ => ⟨he, HT _ _ h hb⟩
  have HL := HP line hz
  cases hj : ownP line.data.toList with
  | none =>
    rw [hj] at HL
    rcases ick_01 i.op i.n i.t i.b i.c i.m i.d with h0 | h0
    · have h0' : ickI i = 0 := h0
      rw [h0'] at H13
      simp only [h0'] at H15
      have HX := HP ⟨(prtI i).toArray⟩ (prt_size h0')
      rw [show (⟨(prtI i).toArray⟩ : ByteArray).data.toList = prtI i from rfl, own_back h0'] at HX
      exact back_10 i.op i.n i.t i.b i.c i.m i.d line _ w BX hBX HA H15 H13 HX (HS i) HL (HS zeroI)
    · have h0' : ickI i = 1 := h0
      rw [h0'] at H13
      simp only [h0'] at H15
      exact back_00 i.op i.n i.t i.b i.c i.m i.d line _ w BX hBX HA H15 H13 HL (HS zeroI)
  | some j =>
    rw [hj] at HL
    obtain ⟨s1, s2⟩ := own_sound hj
    have hjo := own_ok line (by unfold maxLen; omega) hj
    obtain ⟨⟨m1, m2⟩, l1, l2, l3, l4⟩ := hjo
    have hjp : (⟨(prtI j).toArray⟩ : ByteArray) = line := by apply bytes_ext; rw [← s2]
    have G15 : ∀ w' : World, LawW w BX w' → Calls Tryd.prog 15 #[insV j] w' fun e w'' => e = .returned (.tuple #[.string line, .int .i64 0]) ∧ Below w'.heap.size w' w'' := fun w' h => by
      have := oprint_any j.op j.n m1 m2 j.t j.b j.c j.m j.d l1 l2 l3 l4 w' (hG.keep (HB w' h))
      rw [show ickE j.op j.n j.t j.b j.c j.m j.d = 0 from s1, show (⟨(prtL j.op j.n j.t j.b j.c j.m j.d).toArray⟩ : ByteArray) = line from hjp] at this
      exact this
    have hopB : opB j.op = true := (opB_at j.op).2 (ick_op s1)
    have G9 : ∀ w', LawW w BX w' → Calls Tryd.prog 9 #[.int .i64 j.op] w' fun e w'' => e = .returned (.tuple #[.string ⟨(wordL j.op).toArray⟩, .int .i64 0]) ∧ w'' = w' := fun w' h => by
      have := word_any j.op w' (hG.keep (HB w' h)).1
      rw [wrdL, wrdE, hopB] at this
      exact this
    have G13 : ∀ w', LawW w BX w' → Calls Tryd.prog 13 #[insV j] w' fun e w'' => e = .returned (.int .i64 0) ∧ LawW w BX w'' := fun w' h => by
      have := check_any j.op j.n j.t j.b j.c j.m j.d l1 l2 l3 l4 w'
      rw [show ickE j.op j.n j.t j.b j.c j.m j.d = 0 from s1] at this
      exact this.mono fun e w'' ⟨he, hb⟩ => ⟨he, HT _ _ h hb⟩
    obtain ⟨wa1, wa2⟩ := word_ahead s1
    rw [s2] at wa1 wa2
    have hln : line.data.toList.length = line.size := by simp
    have hWl : (⟨(wordL j.op).toArray⟩ : ByteArray).size ≤ line.size := by rw [mk_size]; omega
    have hWe : ((line.extract 0 (⟨(wordL j.op).toArray⟩ : ByteArray).size).toList == (⟨(wordL j.op).toArray⟩ : ByteArray).toList) = true := by
      rw [Lib.toList_data, Lib.toList_data, ex_take, mk_size, ← wa1]
      simp
    rcases ick_01 i.op i.n i.t i.b i.c i.m i.d with h0 | h0
    · have h0' : ickI i = 0 := h0
      rw [h0'] at H13
      simp only [h0'] at H15
      have HX := HP ⟨(prtI i).toArray⟩ (prt_size h0')
      rw [show (⟨(prtI i).toArray⟩ : ByteArray).data.toList = prtI i from rfl, own_back h0'] at HX
      exact back_11 i.op i.n i.t i.b i.c i.m i.d line _ j.op j.n j.t j.b j.c j.m j.d _ w BX hBX HA H15 H13 HX (HS i) HL G15 G9 G13 hWl (by omega) hWe
    · have h0' : ickI i = 1 := h0
      rw [h0'] at H13
      simp only [h0'] at H15
      exact back_01 i.op i.n i.t i.b i.c i.m i.d line _ j.op j.n j.t j.b j.c j.m j.d _ w BX hBX HA H15 H13 HL G15 G9 G13 hWl (by omega) hWe

end Go.Proofs.YtijlipllahfakaaDoor

namespace Go.Proofs.YtijlipllahfakaaDoor
open Go.ChangeShapes Go.WideShapes Go.ChangeAt Go.RowKit Go.Joins Go.Deep

theorem Tryd.c23 : Tryd.prog.cellsOf 23 = 4 := by kernel_rfl
theorem Tryd.c25 : Tryd.prog.cellsOf 25 = 7 := by kernel_rfl
theorem Tryd.c40 : Tryd.prog.cellsOf 40 = 1 := by kernel_rfl
theorem Tryd.c9 : Tryd.prog.cellsOf 9 = 1 := by kernel_rfl
theorem Tryd.c4 : Tryd.prog.cellsOf 4 = 1 := by kernel_rfl
theorem Tryd.c3 : Tryd.prog.cellsOf 3 = 1 := by kernel_rfl
theorem Tryd.b25 : Tryd.prog.bytesOf 25 = 88 := by kernel_rfl

theorem trod_struct4 {H : Type} {enc : TypeId × Value → H} {P : Program} {w : World} {base : Nat} {spare : Nat → Bool} {held : Bool} {t : TypeId} {f0 f1 f2 f3 : Field} {fuel : Nat} {cs : List Value} {x : DataW H × List MemPlace} (ht : P.underlying t = some (.struct #[f0, f1, f2, f3])) (h : DataW.trod enc P w base spare held fuel t cs = some x) :
    ∃ y0 y1 y2 y3 n, cs.length = P.cellsOf t ∧ DataW.trod enc P w base spare held n f0.type ((cs.drop f0.offset).take (P.cellsOf f0.type)) = some y0 ∧
      DataW.trod enc P w base spare held n f1.type ((cs.drop f1.offset).take (P.cellsOf f1.type)) = some y1 ∧ DataW.trod enc P w base spare held n f2.type ((cs.drop f2.offset).take (P.cellsOf f2.type)) = some y2 ∧
      DataW.trod enc P w base spare held n f3.type ((cs.drop f3.offset).take (P.cellsOf f3.type)) = some y3 := by
  obtain ⟨xs, n, _, rfl, hl, hlen, hf⟩ := DataW.trod_struct ht h
  match xs, hlen with
  | [y0, y1, y2, y3], _ => exact ⟨y0, y1, y2, y3, n, hl, by simpa using hf 0 f0 rfl, by simpa using hf 1 f1 rfl, by simpa using hf 2 f2 rfl, by simpa using hf 3 f3 rfl⟩

set_option maxRecDepth 100000 in
theorem read_ref {H : Type} {enc : TypeId × Value → H} {W : World} {fuel : Nat} {cs : List Value} {x : DataW H × List MemPlace} (hl : cs.length = 4)
    (h : DataW.trod enc Tryd.prog W 0 (fun _ => true) true fuel 23 cs = some x) : ∃ (b : Bool) (c m d : ByteArray), cs = [.bool b, .string c, .string m, .string d] ∧ c.size ≤ maxLen ∧ m.size ≤ maxLen ∧ d.size ≤ maxLen := by
  obtain ⟨y0, y1, y2, y3, n, _, h0, h1, h2, h3⟩ := trod_struct4 Tryd.underlying23 h
  obtain ⟨c0, c1, c2, c3, rfl⟩ : ∃ c0 c1 c2 c3, cs = [c0, c1, c2, c3] := by
    match cs, hl with
    | [c0, c1, c2, c3], _ => exact ⟨c0, c1, c2, c3, rfl⟩
  simp only [List.drop_zero, List.drop_succ_cons, Tryd.c4, Tryd.c9, List.take_succ_cons, List.take_zero] at h0 h1 h2 h3
  obtain ⟨b, e0, _⟩ := DataW.trod_bool Tryd.underlying4 h0
  obtain ⟨c, e1, _, w1⟩ := DataW.trod_string Tryd.underlying9 h1
  obtain ⟨m, e2, _, w2⟩ := DataW.trod_string Tryd.underlying9 h2
  obtain ⟨d, e3, _, w3⟩ := DataW.trod_string Tryd.underlying9 h3
  simp at e0 e1 e2 e3
  subst e0 e1 e2 e3
  exact ⟨b, c, m, d, rfl, w1, w2, w3⟩

/-- an instruction whose numbers are ints and whose texts are texts -/
def InsW (i : Ins) : Prop := (-9223372036854775808 ≤ i.n ∧ i.n ≤ 9223372036854775807) ∧ InsOK i
theorem int_wf {n : Int} (h : (Lit.int .i64 n).wf = true) : -9223372036854775808 ≤ n ∧ n ≤ 9223372036854775807 := by
  simpa [Lit.wf, IntKind.min, IntKind.max, IntKind.signed, IntKind.bits] using h

set_option maxRecDepth 100000 in
theorem read_inst {H : Type} {enc : TypeId × Value → H} {W : World} {fuel : Nat} {cs : List Value} {x : DataW H × List MemPlace} (hl : cs.length = 7)
    (h : DataW.trod enc Tryd.prog W 0 (fun _ => true) true fuel 25 cs = some x) : ∃ i : Ins, cs = insC i ∧ InsW i := by
  obtain ⟨y0, y1, y2, y3, n, _, h0, h1, h2, h3⟩ := trod_struct4 Tryd.underlying25 h
  obtain ⟨c0, c1, c2, c3, c4, c5, c6, rfl⟩ : ∃ c0 c1 c2 c3 c4 c5 c6, cs = [c0, c1, c2, c3, c4, c5, c6] := by
    match cs, hl with
    | [c0, c1, c2, c3, c4, c5, c6], _ => exact ⟨c0, c1, c2, c3, c4, c5, c6, rfl⟩
  simp only [List.drop_zero, List.drop_succ_cons, Tryd.c3, Tryd.c9, Tryd.c23, List.take_succ_cons, List.take_zero] at h0 h1 h2 h3
  obtain ⟨op, e0, _, _⟩ := DataW.trod_int Tryd.underlying3 h0
  obtain ⟨nn, e1, _, w1⟩ := DataW.trod_int Tryd.underlying3 h1
  obtain ⟨t, e2, _, w2⟩ := DataW.trod_string Tryd.underlying9 h2
  obtain ⟨b, c, m, d, e3, w3, w4, w5⟩ := read_ref (by rfl) h3
  simp at e0 e1 e2 e3
  obtain ⟨e3, e4, e5, e6⟩ := e3
  subst e0 e1 e2 e3 e4 e5 e6
  exact ⟨⟨op, nn, t, b, c, m, d⟩, rfl, int_wf w1, w2, w3, w4, w5⟩

set_option maxRecDepth 100000 in
theorem arg_ref {H : Type} {enc : TypeId × Value → H} {W : World} {base : Nat} {v0 : Value} {d : DataW H} {p : List MemPlace} (hv : Value.okWide Tryd.prog W .any base 23 v0) (h : DataW.Trod enc Tryd.prog W 0 (fun _ => true) true 23 v0 d p) :
    ∃ (b : Bool) (c m d : ByteArray), v0 = .agg #[.bool b, .string c, .string m, .string d] ∧ c.size ≤ maxLen ∧ m.size ≤ maxLen ∧ d.size ≤ maxLen := by
  obtain ⟨cs, rfl, hsz⟩ := okWide_struct Tryd.underlying23 hv
  obtain ⟨fuel, hf⟩ := h
  obtain ⟨b, c, m, d, e, w1, w2, w3⟩ := read_ref (by simpa [Value.cells] using hsz.trans Tryd.c23) hf
  exact ⟨b, c, m, d, by rw [← Array.toArray_toList (xs := cs), show cs.toList = _ from e], w1, w2, w3⟩
set_option maxRecDepth 100000 in
theorem arg_inst {H : Type} {enc : TypeId × Value → H} {W : World} {base : Nat} {v0 : Value} {d : DataW H} {p : List MemPlace} (hv : Value.okWide Tryd.prog W .any base 25 v0) (h : DataW.Trod enc Tryd.prog W 0 (fun _ => true) true 25 v0 d p) :
    ∃ i : Ins, v0 = insV i ∧ InsW i := by
  obtain ⟨cs, rfl, hsz⟩ := okWide_struct Tryd.underlying25 hv
  obtain ⟨fuel, hf⟩ := h
  obtain ⟨i, e, w⟩ := read_inst (by simpa [Value.cells] using hsz.trans Tryd.c25) hf
  exact ⟨i, by rw [insV, ← e]; simp [Value.cells], w⟩

theorem add_add (a : Addr) (h : a.spot = none) (i j : Nat) : (a.add i).add j = a.add (i + j) := by
  obtain ⟨b, o, sp⟩ := a
  simp at h
  subst h
  rw [add_plain, add_plain, add_plain, Nat.add_assoc]

theorem flatI_ins (l : List Ins) (k : Nat) (i : Ins) (h : l[k]? = some i) (j : Nat) (hj : j < 7) : (flatI l)[k * 7 + j]? = (insC i)[j]? := by
  obtain ⟨e0, e1, e2, e3, e4, e5, e6⟩ := flatI_at l k i h
  match j, hj with
  | 0, _ => exact e0
  | 1, _ => exact e1
  | 2, _ => exact e2
  | 3, _ => exact e3
  | 4, _ => exact e4
  | 5, _ => exact e5
  | 6, _ => exact e6

set_option maxRecDepth 100000 in
/-- a list of instructions among the arguments -/
theorem read_inss {H : Type} {enc : TypeId × Value → H} {W : World} {fuel : Nat} {cs : List Value} {x : DataW H × List MemPlace} (h : DataW.trod enc Tryd.prog W 0 (fun _ => true) true fuel 40 cs = some x) :
    ∃ (v : Value) (l : List Ins), cs = [v] ∧ IsInss W v l ∧ ((v = .slice none 0 0 ∧ l.length = 0) ∨ ∃ ad c, v = .slice (some ad) l.length c ∧ ∀ j u, (flatI l)[j]? = some u → W.cell? (ad.add j) = some u) ∧
      (∀ i ∈ l, InsW i) ∧ (l.length = 0 ∨ ∃ elems spare, x.1 = .slice elems spare ∧ elems.length = l.length) := by
  rcases open_slice Tryd.underlying40 h with ⟨rfl, rfl⟩ | ⟨a, len, cap, m, n, D, Pl, rfl, _, hl, hm, hmm, hx, hel⟩
  · exact ⟨_, [], rfl, ⟨none, 0, rfl, Nat.le_refl _, by unfold maxLen; omega, fun h => absurd rfl h⟩, .inl ⟨rfl, rfl⟩, fun t ht => by simp at ht, .inl rfl⟩
  · simp at hmm
    have : Inhabited Ins := ⟨⟨0, 0, ⟨#[]⟩, false, ⟨#[]⟩, ⟨#[]⟩, ⟨#[]⟩⟩⟩
    obtain ⟨V, hV⟩ := choose_lt (α := Ins) (n := len) (p := fun i t => (∀ j u, (insC t)[j]? = some u → W.cell? ((a.add (i * 7)).add j) = some u) ∧ InsW t) (fun i hi => by
      obtain ⟨cs', h1, h2⟩ := hel i (by omega)
      rw [Tryd.c25] at h1
      obtain ⟨_, hlen, hc⟩ := World.cells?_some h1
      obtain ⟨t, rfl, hsz⟩ := read_inst hlen h2
      refine ⟨t, fun j u hj => ?_, hsz⟩
      have hj7 : j < 7 := (List.getElem?_eq_some_iff.1 hj).1
      exact (hc j hj7).trans hj)
    have hspot : 0 < len → a.spot = none := fun h0 => by
      have := World.cell?_spot ((hV 0 h0).1 0 _ rfl)
      obtain ⟨b, o, sp⟩ := a
      simpa [Addr.add] using this
    have htl : ((List.range len).map V).length = len := by simp
    have hat : ∀ k t, ((List.range len).map V)[k]? = some t → k < len ∧ t = V k := fun k t hk => by
      rw [List.getElem?_map] at hk
      cases e : (List.range len)[k]? with
      | none => rw [e] at hk; simp at hk
      | some y =>
        rw [e] at hk
        obtain ⟨h1, h2⟩ := List.getElem?_eq_some_iff.1 e
        simp at h1 h2 hk
        exact ⟨h1, by rw [← hk, ← h2]⟩
    refine ⟨_, (List.range len).map V, rfl, ?_, .inr ⟨a, cap, by rw [htl], ?_⟩, ?_, .inr ⟨_, _, by rw [hx], by simp⟩⟩
    · refine ⟨some a, cap, by rw [htl], by rw [htl]; exact hl, hm, fun hne => ?_⟩
      have h0 : 0 < len := by
        cases len with
        | zero => simp at hne
        | succ k => omega
      have hsp := hspot h0
      obtain ⟨b, o, sp⟩ := a
      simp at hsp
      subst hsp
      refine ⟨b, o, rfl, ?_, fun k t hk => ?_⟩
      · have := World.block_lt_of_cell? W _ ((hV 0 h0).1 0 _ rfl)
        rw [add_plain, add_plain] at this
        exact this
      · obtain ⟨hk1, rfl⟩ := hat k t hk
        have h1 : ∀ j u, (insC (V k))[j]? = some u → W.cell? ⟨b, o + k * 7 + j, none⟩ = some u := fun j u hj => by
          have := (hV k hk1).1 j u hj
          rw [add_plain, add_plain] at this
          exact this
        exact ⟨h1 0 _ rfl, h1 1 _ rfl, h1 2 _ rfl, h1 3 _ rfl, h1 4 _ rfl, h1 5 _ rfl, h1 6 _ rfl⟩
    · intro j u hj
      have hjl : j < len * 7 := by
        have := (List.getElem?_eq_some_iff.1 hj).1
        rw [flatI_length, htl] at this
        exact this
      have hk : j / 7 < len := by omega
      have hsp := hspot (by omega)
      have hkk : ((List.range len).map V)[j / 7]? = some (V (j / 7)) := by simp [hk]
      have h2 := flatI_ins _ (j / 7) _ hkk (j % 7) (by omega)
      rw [show j / 7 * 7 + j % 7 = j by omega, hj] at h2
      have h1 := (hV (j / 7) hk).1 (j % 7) u h2.symm
      rw [add_add a hsp, show j / 7 * 7 + j % 7 = j by omega] at h1
      exact h1
    · intro t ht
      obtain ⟨k, hk⟩ := List.mem_iff_getElem?.1 ht
      obtain ⟨hk1, rfl⟩ := hat k t hk
      exact (hV k hk1).2

theorem arg_inss {H : Type} {enc : TypeId × Value → H} {W : World} {v0 : Value} {d : DataW H} {p : List MemPlace} (hv : v0.cells.toList = [v0]) (h : DataW.Trod enc Tryd.prog W 0 (fun _ => true) true 40 v0 d p) :
    ∃ l : List Ins, IsInss W v0 l ∧ ((v0 = .slice none 0 0 ∧ l.length = 0) ∨ ∃ ad c, v0 = .slice (some ad) l.length c ∧ ∀ j u, (flatI l)[j]? = some u → W.cell? (ad.add j) = some u) ∧
      (∀ i ∈ l, InsW i) ∧ (l.length = 0 ∨ ∃ elems spare, d = .slice elems spare ∧ elems.length = l.length) := by
  obtain ⟨fuel, hf⟩ := h
  obtain ⟨v, l, e, r⟩ := read_inss hf
  rw [hv] at e
  simp at e
  subst e
  exact ⟨l, r⟩

/-- what the reach says of its length -/
theorem inss_reach {H : Type} {d : DataW H} {gs : List (DataW H)} {ts : List TypeId} {n : Nat} (h : (DataW.weightsEach Tryd.prog (40 :: ts) (d :: gs)).all (· ≤ reachBytes) = true) (hd : n = 0 ∨ ∃ elems spare, d = .slice elems spare ∧ elems.length = n) : n * 88 ≤ 140737488351232 := by
  rcases hd with rfl | ⟨el, sp, rfl, rfl⟩
  · omega
  · have hm : (el.length + sp.length) * 88 ∈ DataW.weightsEach Tryd.prog (40 :: ts) (.slice el sp :: gs) := by
      simp [DataW.weightsEach, DataW.weights, Tryd.underlying40, Tryd.b25]
    have h1 : (el.length + sp.length) * 88 ≤ reachBytes := of_decide_eq_true (List.all_eq_true.1 h _ hm)
    have h2 : reachBytes = 140737488351232 := rfl
    omega

end Go.Proofs.YtijlipllahfakaaDoor

namespace Go.Proofs.YtijlipllahfakaaDoor
open Go.RowKit Go.ChangeShapes Go.WideShapes Go.ChangeAt Go.ChangeMaps

theorem Tryd.synT : (Tryd.prog.globals[3]?).map (·.type) = some 103 := by kernel_rfl
theorem Tryd.rngT : (Tryd.prog.globals[4]?).map (·.type) = some 103 := by kernel_rfl
theorem Tryd.star : "*" ++ "errors.errorString" = "*errors.errorString" := by decide
theorem Tryd.row138 (u : TypeId) (h : Tryd.prog.typeName? 3 u = some "*errors.errorString") : u = 138 :=
  typeName_ptr_named (nm := "errors.errorString") (by rw [Tryd.star]; kernel_rfl) (by kernel_rfl) (by decide) u (by rw [Tryd.star]; exact h)
theorem Tryd.c140 : Tryd.prog.cellsOf 140 = 1 := by kernel_rfl
theorem errs_in {r : List (String × DataW Unit)} {W : World} (h : laidMet Tryd.prog (("strconv.ErrRange", Rows.laid_strconv_ErrRange) :: ("strconv.ErrSyntax", Rows.laid_strconv_ErrSyntax) :: r) W) : EIn W := by
  obtain ⟨a0, s0, hv0, -, -, -⟩ := laid_sentinel h Tryd.rngG Tryd.rngT Tryd.underlying103 Tryd.row138 Tryd.underlying138 Tryd.underlying140 rfl rfl Tryd.underlying9 Tryd.c140 Tryd.c9
  obtain ⟨a1, s1, hv1, -, -, -⟩ := laid_sentinel h.tail Tryd.synG Tryd.synT Tryd.underlying103 Tryd.row138 Tryd.underlying138 Tryd.underlying140 rfl rfl Tryd.underlying9 Tryd.c140 Tryd.c9
  exact ⟨⟨_, _, hv1⟩, _, _, hv0⟩

theorem codeBack_walk (i : Ins) (hi : InsW i) (line : ByteArray) (_ : line.size ≤ maxLen) (w : World) (h1 : WordsIn w) (h2 : TenIn w) (h3 : WordsRow w) (h4 : EIn w) (hz : line.size ≤ 140737488351232) : Calls Tryd.prog 6 #[insV i, .string line] w fun e w' => e = .returned (.bool true) ∧ Below w.heap.size w w' :=
  CodeBack_any i hi line hz w ⟨h1, h2⟩ h3 h4

theorem codeBack_own : ownKnob Tryd.prog.godebug = none := by kernel_rfl
theorem codeBack_laidOut : laidOutB Tryd.prog = true := by kernel_rfl

set_option linter.unusedVariables false in
set_option maxRecDepth 100000 in
theorem codeBack_lifted (os : Os) (started : os.Started) (H : Type) (enc : TypeId × Value → H) :
    ReturnsInHanded {} Tryd.checked os 6 .any (fun w args => (Rows.codeBackSpec.pre enc Tryd.prog Tryd.f6 [] false w args ∧ laidMetH Tryd.prog Rows.codeBackRow.laid w) ∧ sizedMet enc Tryd.prog Tryd.f6 (OpenSpec.ofChange Rows.codeBackSpec) false w args)
      (Rows.codeBackSpec.post enc Tryd.prog Tryd.f6 false true false false) := by
  refine returnsInHanded_of_change_and (C := Tryd.checked) (X := fun w _ => laidMetH Tryd.prog Rows.codeBackRow.laid w) (fun _ _ _ hh h => h.of_heap hh) codeBack_own started (by kernel_rfl) Tryd.func6
    (ChangeSpec.witness_shaped (enc := enc) (C := Tryd.checked) (os := os) (X := fun w _ => laidMetH Tryd.prog Rows.codeBackRow.laid w) false (World.laidAll Tryd.prog os Rows.codeBackRow.laid) #[.agg #[.int .i64 0, .int .i64 0, .string ByteArray.empty, .bool false, .string ByteArray.empty, .string ByteArray.empty, .string ByteArray.empty], .string ByteArray.empty] 8 (World.laidAll_os _ _ _)
      (World.shaped_of_ZipB (by kernel_rfl) (by kernel_rfl)) (by kernel_rfl) (by kernel_rfl) (by kernel_rfl)
      (by rw [MakeChecks.laidMetH_plain _ _ _ (by kernel_rfl)]; exact laidMet_laidAll _ (by kernel_rfl) (by kernel_rfl))) ?_
  intro W base args ds gs before hval0 hW _ hR hL _
  have hval : ∀ (j : Nat) t v, Tryd.f6.params[j]? = some t → args[j]? = some v → Value.okWide Tryd.prog W .any base t v := hval0
  have hW' := hW
  obtain ⟨p, q, hA0, hV, rfl, _, _⟩ := hW
  have hA : DataW.TrodAll enc Tryd.prog W 0 (fun _ => true) true Tryd.f6.params.toList args.toList ds p := hA0
  rw [Tryd.params6] at hA hval
  obtain ⟨v0, vs0, d0, ds0, p0, q0, hargs0, rfl, rfl, h0, r0⟩ := trodAll_cons hA
  obtain ⟨v1, vs1, d1, ds1, p1, q1, hargs1, rfl, rfl, h1, r1⟩ := trodAll_cons r0
  obtain ⟨rfl, rfl, rfl⟩ := trodAll_nil r1
  obtain rfl : args = #[v0, v1] := by cases args; simp_all
  obtain ⟨rfl, rfl⟩ := trodVars_none hV
  have k0 := h0
  have lt0 : ∀ x ∈ p0, x.block < W.heap.size := by obtain ⟨m, hm⟩ := k0; exact DataW.trod_lt m _ _ _ hm
  obtain ⟨i0, rfl, u0⟩ := arg_inst (hval 0 25 v0 rfl rfl) h0
  obtain ⟨a1, rfl, rfl, rfl, w1⟩ := open_string Tryd.underlying9 (hval 1 9 v1 rfl rfl) h1
  rw [MakeChecks.laidMetH_plain _ _ _ (by kernel_rfl)] at hL
  have hF0 := words_in (Lib.laidMet.reads hL (n := "arbiter/code.words") (d := Rows.laid_arbiter_code_words) (by simp [Rows.codeBackRow]))
  have hF1 := ten_in (Lib.laidMet.reads hL (n := "internal/strconv.uint64pow10") (d := Rows.laid_internal_strconv_uint64pow10) (by simp [Rows.codeBackRow]))
  have hF2 := words_row (Lib.laidMet.reads hL (n := "arbiter/code.words") (d := Rows.laid_arbiter_code_words) (by simp [Rows.codeBackRow]))
  have hF9 : EIn W := errs_in hL.tail.tail.tail
  clear hL hA0 hval0
  have hZ1 : a1.size ≤ 140737488351232 := by
    have := sized_string (j := 1) (t := 9) hR (by simp [Tryd.params6]) rfl
    simpa [reachBytes] using this
  refine (codeBack_walk i0 u0 a1 w1 W hF0 hF1 hF2 hF9 hZ1).mono fun e W' ⟨he, bel⟩ => ?_
  subst he
  exact ⟨_, rfl, _, _, _, [], _, [], hW', trodAll_mk1 (shut_bool Tryd.underlying4 _), trodAll_cons_mk (Below.trod codeBack_laidOut (by kernel_rfl) (of_decide_eq_true (by kernel_rfl)) k0 bel lt0) (trodAll_cons_mk (shut_string Tryd.underlying9 w1) trodAll_mk0), rfl, bel.frame _, fun h => by cases h⟩

theorem codeBack_over : Rows.codeBackRow.holds Tryd.pinned (OpenSpec.ofChange Rows.codeBackSpec) :=
  OpenClaim.holds_of_wide 6 Tryd.f6 rfl rfl rfl rfl rfl rfl rfl ⟨rfl, rfl, rfl, rfl, rfl⟩ rfl rfl rfl rfl rfl (by kernel_rfl) Tryd.func6 (by kernel_rfl)
    (of_decide_eq_true (by kernel_rfl)) (by unfold Func.isWrapper; first | (rw [if_pos (by decide +kernel)]; kernel_rfl) | (rw [if_neg (by decide +kernel)]; exact ⟨rfl, rfl⟩))
    (fun os started H enc _ => codeBack_lifted os started H enc)

/-- THE STATEMENT -/
theorem codeBack_holds : Rows.CodeBackCardSaid :=
  Claim7.holds_tied_plain_at .later [] [.data, .data, .data, .sentinel, .sentinel, .data] true (true, "e55e02564b72d465861a8de70d0fca1f71fe2c5b5ccef684c80d09ac78c6674e") true codeBack_over (fun _ h => by cases h) (by kernel_rfl) (fun _ h => by cases h) codeBack_row_tie rfl ⟨rfl, rfl⟩ (by kernel_rfl) rfl
    (fun f fn hf hfn => by
      obtain rfl : f = 6 := Option.some.inj ((show Tryd.prog.funcNamed "arbiter/arbiterlaw04.CodeBack" = some 6 by kernel_rfl).symm.trans hf) |>.symm
      obtain rfl : fn = Tryd.f6 := (Option.some.inj (Tryd.func6.symm.trans hfn)).symm
      exact ⟨by kernel_rfl, fun j t ht => by
        rw [Tryd.params6] at ht
        have hm : t ∈ [25, 9] := by simpa using Array.mem_of_getElem? ht
        have hall : ([25, 9].all fun u => !Tryd.prog.wantsStandIn u) = true := by kernel_rfl
        exact (show Tryd.prog.wantsStandIn t = false by simpa using List.all_eq_true.1 hall t hm)⟩)
    (by kernel_rfl)
#print axioms codeBack_holds

end Go.Proofs.YtijlipllahfakaaDoor

