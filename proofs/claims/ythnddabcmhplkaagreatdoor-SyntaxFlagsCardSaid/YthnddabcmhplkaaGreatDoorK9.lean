/- Texts merged by program. No condition. -/
import Derived.Shelf.Strings.SlTrimAscii
import Derived.Shelf.Small.Wraps
import Derived.Shelf.Strings.Cut
import Derived.Shelf.Slices.Turned
import Derived.Test.YthnddabcmhplkaaGreatDoorK5
import Derived.Test.YthnddabcmhplkaaGreatDoorK7
namespace Go.Proofs
open Go.Shelf
def Tryz.lays161_ren : Go.Shelf.Ren := ⟨fun | 161 => 140 | 231 => 159 | 227 => 160 | 233 => 161 | 235 => 162 | 228 => 169 | 197 => 46 | 151 => 170 | 260 => 71 | 152 => 171 | 137 => 172 | 119 => 173 | 224 => 147 | 225 => 146 | 217 => 145 | 266 => 164 | n => n,fun | 9 => 9 | 4 => 4 | 3 => 3 | 5 => 5 | 117 => 215 | 116 => 214 | 0 => 0 | 124 => 218 | 105 => 85 | 21 => 21 | 119 => 53 | 46 => 57 | 139 => 56 | 138 => 55 | n => n,fun | 3 => 0 | 4 => 1 | n => n⟩
theorem Tryz.lays161 : Go.Proofs.Lays.n161 Tryz.prog Tryz.lays161_ren := {
 mixed := by kernel_rfl
 f119 := Tryz.func173.trans (congrArg some (by kernel_rfl))
 f137 := Tryz.func172.trans (congrArg some (by kernel_rfl))
 f151 := Tryz.func170.trans (congrArg some (by kernel_rfl))
 f152 := Tryz.func171.trans (congrArg some (by kernel_rfl))
 f161 := Tryz.func140.trans (congrArg some (by kernel_rfl))
 f197 := Tryz.func46.trans (congrArg some (by kernel_rfl))
 f217 := Tryz.func145.trans (congrArg some (by kernel_rfl))
 f224 := Tryz.func147.trans (congrArg some (by kernel_rfl))
 f225 := Tryz.func146.trans (congrArg some (by kernel_rfl))
 f227 := Tryz.func160.trans (congrArg some (by kernel_rfl))
 f228 := Tryz.func169.trans (congrArg some (by kernel_rfl))
 f231 := Tryz.func159.trans (congrArg some (by kernel_rfl))
 f233 := Tryz.func161.trans (congrArg some (by kernel_rfl))
 f235 := Tryz.func162.trans (congrArg some (by kernel_rfl))
 f260 := Tryz.func71.trans (congrArg some (by kernel_rfl))
 f266 := Tryz.func164.trans (congrArg some (by kernel_rfl))
 t0 := Tryz.underlying0
 a0 := Tryz.isAgg0
 z0 := Tryz.sizeOf0
 v0 := Tryz.zeroValue0
 t3 := Tryz.underlying3
 a3 := Tryz.isAgg3
 z3 := Tryz.sizeOf3
 v3 := Tryz.zeroValue3
 t4 := Tryz.underlying4
 a4 := Tryz.isAgg4
 z4 := Tryz.sizeOf4
 v4 := Tryz.zeroValue4
 t5 := Tryz.underlying5
 a5 := Tryz.isAgg5
 z5 := Tryz.sizeOf5
 v5 := Tryz.zeroValue5
 t9 := Tryz.underlying9
 a9 := Tryz.isAgg9
 z9 := Tryz.sizeOf9
 v9 := Tryz.zeroValue9
 t21 := Tryz.underlying21
 a21 := Tryz.isAgg21
 z21 := Tryz.sizeOf21
 v21 := Tryz.zeroValue21
 t46 := Tryz.underlying57
 a46 := Tryz.isAgg57
 z46 := Tryz.sizeOf57
 v46 := Tryz.zeroValue57
 t105 := Tryz.underlying85
 a105 := Tryz.isAgg85
 z105 := Tryz.sizeOf85
 v105 := Tryz.zeroValue85
 t116 := Tryz.underlying214
 a116 := Tryz.isAgg214
 z116 := Tryz.sizeOf214
 t117 := Tryz.underlying215
 a117 := Tryz.isAgg215
 z117 := Tryz.sizeOf215
 v117 := Tryz.zeroValue215
 t119 := Tryz.underlying53
 a119 := Tryz.isAgg53
 z119 := Tryz.sizeOf53
 t124 := Tryz.underlying218
 a124 := Tryz.isAgg218
 z124 := Tryz.sizeOf218
 v124 := Tryz.zeroValue218
 t138 := Tryz.underlying55
 a138 := Tryz.isAgg55
 z138 := Tryz.sizeOf55
 v138 := Tryz.zeroValue55
 t139 := Tryz.underlying56
 a139 := Tryz.isAgg56
 z139 := Tryz.sizeOf56
 v139 := Tryz.zeroValue56
 g3 := by kernel_rfl
 g4 := by kernel_rfl }
open Go.RowKit in
theorem Tryz.strings_TrimLeft_one (s : ByteArray) (c : UInt8) (hc : c.toNat < 128) (w : World) :
  Calls Tryz.prog 140 #[.string s,.string ⟨#[c]⟩] w fun e w' => e = .returned (.string ⟨(Lib.trimLeftB s.data.toList c).toArray⟩) ∧ w' = w := Any.strings_TrimLeft_one Tryz.lays161 s c hc w
def Tryz.lays137_ren : Go.Shelf.Ren := ⟨fun | 137 => 172 | 217 => 145 | 266 => 164 | n => n,fun | 9 => 9 | 5 => 5 | 3 => 3 | n => n,fun | n => n⟩
theorem Tryz.lays137 : Go.Proofs.Lays.n137 Tryz.prog Tryz.lays137_ren := {
 mixed := by kernel_rfl
 f137 := Tryz.func172.trans (congrArg some (by kernel_rfl))
 f217 := Tryz.func145.trans (congrArg some (by kernel_rfl))
 f266 := Tryz.func164.trans (congrArg some (by kernel_rfl))
 t3 := Tryz.underlying3
 a3 := Tryz.isAgg3
 z3 := Tryz.sizeOf3
 v3 := Tryz.zeroValue3
 t5 := Tryz.underlying5
 a5 := Tryz.isAgg5
 z5 := Tryz.sizeOf5
 v5 := Tryz.zeroValue5
 t9 := Tryz.underlying9
 a9 := Tryz.isAgg9
 z9 := Tryz.sizeOf9
 v9 := Tryz.zeroValue9 }
open Go.RowKit in
theorem Tryz.strings_IndexByte (s : ByteArray) (c : Int) (w : World) :
  Calls Tryz.prog 172 #[.string s,.int .u8 c] w fun e w' => e = .returned (.int .i64 (Lib.indexByte s.data.toList c.toNat.toUInt8)) ∧ w' = w := Any.strings_IndexByte Tryz.lays137 s c w
def Tryz.lays103_ren : Go.Shelf.Ren := ⟨fun | 103 => 122 | 210 => 142 | 206 => 74 | n => n,fun | 9 => 9 | 4 => 4 | 24 => 141 | 3 => 3 | n => n,fun | n => n⟩
theorem Tryz.lays103 : Go.Proofs.Lays.n103 Tryz.prog Tryz.lays103_ren := {
 mixed := by kernel_rfl
 f103 := Tryz.func122.trans (congrArg some (by kernel_rfl))
 f206 := Tryz.func74.trans (congrArg some (by kernel_rfl))
 f210 := Tryz.func142.trans (congrArg some (by kernel_rfl))
 t3 := Tryz.underlying3
 a3 := Tryz.isAgg3
 z3 := Tryz.sizeOf3
 v3 := Tryz.zeroValue3
 t4 := Tryz.underlying4
 a4 := Tryz.isAgg4
 z4 := Tryz.sizeOf4
 v4 := Tryz.zeroValue4
 t9 := Tryz.underlying9
 a9 := Tryz.isAgg9
 z9 := Tryz.sizeOf9
 v9 := Tryz.zeroValue9
 t24 := Tryz.underlying141
 a24 := Tryz.isAgg141
 z24 := Tryz.sizeOf141
 v24 := Tryz.zeroValue141 }
open Go.RowKit in
theorem Tryz.strings_CutPrefix (s p : ByteArray) (w : World) :
  Calls Tryz.prog 122 #[.string s,.string p] w fun e w' => e = .returned (.tuple #[.string ⟨(Lib.trimPrefix s.data.toList p.data.toList).toArray⟩,.bool (Lib.hasPrefix s.data.toList p.data.toList)]) ∧ w' = w := Any.strings_CutPrefix Tryz.lays103 s p w
def Tryz.lays219_ren : Go.Shelf.Ren := ⟨fun | 219 => 128 | 217 => 145 | 225 => 146 | 224 => 147 | 267 => 148 | 266 => 164 | 314 => 165 | n => n,fun | 9 => 9 | 3 => 3 | 4 => 4 | 5 => 5 | 46 => 57 | 146 => 220 | 51 => 194 | n => n,fun | 1 => 4 | n => n⟩
theorem Tryz.lays219 : Go.Proofs.Lays.n219 Tryz.prog Tryz.lays219_ren := {
 mixed := by kernel_rfl
 f217 := Tryz.func145.trans (congrArg some (by kernel_rfl))
 f219 := Tryz.func128.trans (congrArg some (by kernel_rfl))
 f224 := Tryz.func147.trans (congrArg some (by kernel_rfl))
 f225 := Tryz.func146.trans (congrArg some (by kernel_rfl))
 f266 := Tryz.func164.trans (congrArg some (by kernel_rfl))
 f267 := Tryz.func148.trans (congrArg some (by kernel_rfl))
 f314 := Tryz.func165.trans (congrArg some (by kernel_rfl))
 t3 := Tryz.underlying3
 a3 := Tryz.isAgg3
 z3 := Tryz.sizeOf3
 v3 := Tryz.zeroValue3
 t4 := Tryz.underlying4
 a4 := Tryz.isAgg4
 z4 := Tryz.sizeOf4
 v4 := Tryz.zeroValue4
 t5 := Tryz.underlying5
 a5 := Tryz.isAgg5
 z5 := Tryz.sizeOf5
 v5 := Tryz.zeroValue5
 t9 := Tryz.underlying9
 a9 := Tryz.isAgg9
 z9 := Tryz.sizeOf9
 v9 := Tryz.zeroValue9
 t46 := Tryz.underlying57
 a46 := Tryz.isAgg57
 z46 := Tryz.sizeOf57
 v46 := Tryz.zeroValue57
 t51 := Tryz.underlying194
 a51 := Tryz.isAgg194
 z51 := Tryz.sizeOf194
 v51 := Tryz.zeroValue194
 t146 := Tryz.underlying220
 a146 := Tryz.isAgg220
 z146 := Tryz.sizeOf220
 v146 := Tryz.zeroValue220
 g1 := by kernel_rfl }
open Go.RowKit Go.Lib in
theorem Tryz.stringslite_Index_one (s : ByteArray) (c : UInt8) (w : World) :
  Calls Tryz.prog 128 #[.string s,.string ⟨#[c]⟩] w fun e w' => e = .returned (.int .i64 (Lib.indexByte s.data.toList c)) ∧ w' = w := Any.stringslite_Index_one Tryz.lays219 s c w
def Tryz.lays145_ren : Go.Shelf.Ren := ⟨fun | 145 => 92 | 220 => 114 | 219 => 128 | 217 => 145 | 225 => 146 | 224 => 147 | 267 => 148 | 266 => 164 | 314 => 165 | n => n,fun | 9 => 9 | 4 => 4 | 59 => 147 | 3 => 3 | 5 => 5 | 46 => 57 | 146 => 220 | 51 => 194 | n => n,fun | 1 => 4 | n => n⟩
theorem Tryz.lays145 : Go.Proofs.Lays.n145 Tryz.prog Tryz.lays145_ren := {
 mixed := by kernel_rfl
 f145 := Tryz.func92.trans (congrArg some (by kernel_rfl))
 f217 := Tryz.func145.trans (congrArg some (by kernel_rfl))
 f219 := Tryz.func128.trans (congrArg some (by kernel_rfl))
 f220 := Tryz.func114.trans (congrArg some (by kernel_rfl))
 f224 := Tryz.func147.trans (congrArg some (by kernel_rfl))
 f225 := Tryz.func146.trans (congrArg some (by kernel_rfl))
 f266 := Tryz.func164.trans (congrArg some (by kernel_rfl))
 f267 := Tryz.func148.trans (congrArg some (by kernel_rfl))
 f314 := Tryz.func165.trans (congrArg some (by kernel_rfl))
 t3 := Tryz.underlying3
 a3 := Tryz.isAgg3
 z3 := Tryz.sizeOf3
 v3 := Tryz.zeroValue3
 t4 := Tryz.underlying4
 a4 := Tryz.isAgg4
 z4 := Tryz.sizeOf4
 v4 := Tryz.zeroValue4
 t5 := Tryz.underlying5
 a5 := Tryz.isAgg5
 z5 := Tryz.sizeOf5
 v5 := Tryz.zeroValue5
 t9 := Tryz.underlying9
 a9 := Tryz.isAgg9
 z9 := Tryz.sizeOf9
 v9 := Tryz.zeroValue9
 t46 := Tryz.underlying57
 a46 := Tryz.isAgg57
 z46 := Tryz.sizeOf57
 v46 := Tryz.zeroValue57
 t51 := Tryz.underlying194
 a51 := Tryz.isAgg194
 z51 := Tryz.sizeOf194
 v51 := Tryz.zeroValue194
 t59 := Tryz.underlying147
 a59 := Tryz.isAgg147
 z59 := Tryz.sizeOf147
 v59 := Tryz.zeroValue147
 t146 := Tryz.underlying220
 a146 := Tryz.isAgg220
 z146 := Tryz.sizeOf220
 v146 := Tryz.zeroValue220
 g1 := by kernel_rfl }
open Go.RowKit Go.Lib in
theorem Tryz.strings_Cut (s sep : ByteArray) (m : Int) (w : World) (hs : s.size < 4294967281) (hm : w.cell? ⟨4,0,none⟩ = some (.int .i64 m)) :
  Calls Tryz.prog 92 #[.string s,.string sep] w fun e w' => e = .returned (.tuple #[.string ⟨(Lib.cut s.data.toList sep.data.toList).1.toArray⟩,.string ⟨(Lib.cut s.data.toList sep.data.toList).2.1.toArray⟩,.bool (Lib.cut s.data.toList sep.data.toList).2.2]) ∧ ∃ n,w' = w.drewN n := Any.strings_Cut Tryz.lays145 s sep m w hs hm
def Tryz.lays99_ren : Go.Shelf.Ren := ⟨fun | 99 => 48 | 206 => 74 | n => n,fun | 9 => 9 | 4 => 4 | 3 => 3 | n => n,fun | n => n⟩
theorem Tryz.lays99 : Go.Proofs.Lays.n99 Tryz.prog Tryz.lays99_ren := {
 mixed := by kernel_rfl
 f99 := Tryz.func48.trans (congrArg some (by kernel_rfl))
 f206 := Tryz.func74.trans (congrArg some (by kernel_rfl))
 t3 := Tryz.underlying3
 a3 := Tryz.isAgg3
 z3 := Tryz.sizeOf3
 v3 := Tryz.zeroValue3
 t4 := Tryz.underlying4
 a4 := Tryz.isAgg4
 z4 := Tryz.sizeOf4
 v4 := Tryz.zeroValue4
 t9 := Tryz.underlying9
 a9 := Tryz.isAgg9
 z9 := Tryz.sizeOf9
 v9 := Tryz.zeroValue9 }
open Go.RowKit Go.Lib in
theorem Tryz.strings_HasPrefix (s p : ByteArray) (w : World) :
  Calls Tryz.prog 48 #[.string s,.string p] w fun e w' => e = .returned (.bool (Lib.hasPrefix s.data.toList p.data.toList)) ∧ w' = w := Any.strings_HasPrefix Tryz.lays99 s p w
def Tryz.lays151_ren : Go.Shelf.Ren := ⟨fun | 151 => 170 | 152 => 171 | 137 => 172 | 119 => 173 | 224 => 147 | 225 => 146 | 217 => 145 | 266 => 164 | n => n,fun | 9 => 9 | 21 => 21 | 4 => 4 | 3 => 3 | 5 => 5 | 0 => 0 | 46 => 57 | n => n,fun | n => n⟩
theorem Tryz.lays151 : Go.Proofs.Lays.n151 Tryz.prog Tryz.lays151_ren := {
 mixed := by kernel_rfl
 f119 := Tryz.func173.trans (congrArg some (by kernel_rfl))
 f137 := Tryz.func172.trans (congrArg some (by kernel_rfl))
 f151 := Tryz.func170.trans (congrArg some (by kernel_rfl))
 f152 := Tryz.func171.trans (congrArg some (by kernel_rfl))
 f217 := Tryz.func145.trans (congrArg some (by kernel_rfl))
 f224 := Tryz.func147.trans (congrArg some (by kernel_rfl))
 f225 := Tryz.func146.trans (congrArg some (by kernel_rfl))
 f266 := Tryz.func164.trans (congrArg some (by kernel_rfl))
 t0 := Tryz.underlying0
 a0 := Tryz.isAgg0
 z0 := Tryz.sizeOf0
 v0 := Tryz.zeroValue0
 t3 := Tryz.underlying3
 a3 := Tryz.isAgg3
 z3 := Tryz.sizeOf3
 v3 := Tryz.zeroValue3
 t4 := Tryz.underlying4
 a4 := Tryz.isAgg4
 z4 := Tryz.sizeOf4
 v4 := Tryz.zeroValue4
 t5 := Tryz.underlying5
 a5 := Tryz.isAgg5
 z5 := Tryz.sizeOf5
 v5 := Tryz.zeroValue5
 t9 := Tryz.underlying9
 a9 := Tryz.isAgg9
 z9 := Tryz.sizeOf9
 v9 := Tryz.zeroValue9
 t21 := Tryz.underlying21
 a21 := Tryz.isAgg21
 z21 := Tryz.sizeOf21
 v21 := Tryz.zeroValue21
 t46 := Tryz.underlying57
 a46 := Tryz.isAgg57
 z46 := Tryz.sizeOf57
 v46 := Tryz.zeroValue57 }
open Go.RowKit Go.Lib in
theorem Tryz.strings_ContainsRune_ascii (s : ByteArray) (r : Int) (w : World) (h0 : 0 ≤ r) (h1 : r < 128) :
  Calls Tryz.prog 170 #[.string s,.int .i32 r] w fun e w' => e = .returned (.bool (decide (0 ≤ Lib.indexByte s.data.toList r.toNat.toUInt8))) ∧ w' = w := Any.strings_ContainsRune_ascii Tryz.lays151 s r w h0 h1
def Tryz.lays197_ren : Go.Shelf.Ren := ⟨fun | 197 => 46 | 260 => 71 | n => n,fun | 9 => 9 | 21 => 21 | 3 => 3 | 4 => 4 | 5 => 5 | 105 => 85 | 119 => 53 | 0 => 0 | 46 => 57 | 139 => 56 | 138 => 55 | n => n,fun | 3 => 0 | 4 => 1 | n => n⟩
theorem Tryz.lays197 : Go.Proofs.Lays.n197 Tryz.prog Tryz.lays197_ren := {
 mixed := by kernel_rfl
 f197 := Tryz.func46.trans (congrArg some (by kernel_rfl))
 f260 := Tryz.func71.trans (congrArg some (by kernel_rfl))
 t0 := Tryz.underlying0
 a0 := Tryz.isAgg0
 z0 := Tryz.sizeOf0
 v0 := Tryz.zeroValue0
 t3 := Tryz.underlying3
 a3 := Tryz.isAgg3
 z3 := Tryz.sizeOf3
 v3 := Tryz.zeroValue3
 t4 := Tryz.underlying4
 a4 := Tryz.isAgg4
 z4 := Tryz.sizeOf4
 v4 := Tryz.zeroValue4
 t5 := Tryz.underlying5
 a5 := Tryz.isAgg5
 z5 := Tryz.sizeOf5
 v5 := Tryz.zeroValue5
 t9 := Tryz.underlying9
 a9 := Tryz.isAgg9
 z9 := Tryz.sizeOf9
 v9 := Tryz.zeroValue9
 t21 := Tryz.underlying21
 a21 := Tryz.isAgg21
 z21 := Tryz.sizeOf21
 v21 := Tryz.zeroValue21
 t46 := Tryz.underlying57
 a46 := Tryz.isAgg57
 z46 := Tryz.sizeOf57
 v46 := Tryz.zeroValue57
 t105 := Tryz.underlying85
 a105 := Tryz.isAgg85
 z105 := Tryz.sizeOf85
 v105 := Tryz.zeroValue85
 t119 := Tryz.underlying53
 a119 := Tryz.isAgg53
 z119 := Tryz.sizeOf53
 t138 := Tryz.underlying55
 a138 := Tryz.isAgg55
 z138 := Tryz.sizeOf55
 v138 := Tryz.zeroValue55
 t139 := Tryz.underlying56
 a139 := Tryz.isAgg56
 z139 := Tryz.sizeOf56
 v139 := Tryz.zeroValue56
 g3 := by kernel_rfl
 g4 := by kernel_rfl }
open Go.RowKit Go.Lib in
theorem Tryz.utf8_DecodeRuneInString (s : ByteArray) (w : World) (hT : Lib.Utf8Tabs 0 1 w) :
  Calls Tryz.prog 46 #[.string s] w fun e w' => e = .returned (.tuple #[.int .i32 (Lib.decodeGo s).1,.int .i64 (Lib.decodeGo s).2]) ∧ Below w.heap.size w w' := Any.utf8_DecodeRuneInString Tryz.lays197 s w hT
def Tryz.lays110_ren : Go.Shelf.Ren := ⟨fun | 110 => 79 | 109 => 103 | n => n,fun | 31 => 39 | 9 => 9 | 4 => 4 | 3 => 3 | 0 => 0 | n => n,fun | n => n⟩
theorem Tryz.lays110 : Go.Proofs.Lays.n110 Tryz.prog Tryz.lays110_ren := {
 mixed := by kernel_rfl
 f109 := Tryz.func103.trans (congrArg some (by kernel_rfl))
 f110 := Tryz.func79.trans (congrArg some (by kernel_rfl))
 t0 := Tryz.underlying0
 a0 := Tryz.isAgg0
 z0 := Tryz.sizeOf0
 v0 := Tryz.zeroValue0
 t3 := Tryz.underlying3
 a3 := Tryz.isAgg3
 z3 := Tryz.sizeOf3
 v3 := Tryz.zeroValue3
 t4 := Tryz.underlying4
 a4 := Tryz.isAgg4
 z4 := Tryz.sizeOf4
 v4 := Tryz.zeroValue4
 t9 := Tryz.underlying9
 a9 := Tryz.isAgg9
 z9 := Tryz.sizeOf9
 v9 := Tryz.zeroValue9
 t31 := Tryz.underlying39
 a31 := Tryz.isAgg39
 z31 := Tryz.sizeOf39
 v31 := Tryz.zeroValue39 }
open Go.Lib in
theorem Tryz.slices_Contains_string (b off n c : Nat) (zs : List ByteArray) (x : ByteArray) (w : World) (hz : n ≤ zs.length) (hbig : n ≤ 9223372036854775807) (hc : ∀ j,j < zs.length → w.cell? ⟨b,off + j,none⟩ = some (.string (zs.getD j ByteArray.empty))) :
  Calls Tryz.prog 79 #[.slice (some ⟨b,off,none⟩) n c,.string x] w fun e w' => e = .returned (.bool (Lib.containsS (zs.take n) x)) ∧ w' = w := Any.slices_Contains_string Tryz.lays110 b off n c zs x w hz hbig hc
open Go.Lib in
theorem Tryz.slices_Contains_string_empty (a : Option Addr) (c : Nat) (x : ByteArray) (w : World) :
  Calls Tryz.prog 79 #[.slice a 0 c,.string x] w fun e w' => e = .returned (.bool false) ∧ w' = w := Any.slices_Contains_string_empty Tryz.lays110 a c x w
end Go.Proofs
set_option linter.unusedVariables false
namespace Go.Proofs.YthnddabcmhplkaaGreatDoor
open Go Go.RowKit
def gtN : List UInt8 → Nat
 | [] => 0
 | c :: t => if c.toNat = 62 then 0 else gtN t + 1
theorem gtN_le : ∀ l : List UInt8,gtN l ≤ l.length
 | [] => Nat.le_refl _
 | c :: t => by
  unfold gtN
  have := gtN_le t
  split <;> simp <;> omega
def endS (s : ByteArray) (i : Nat) : Nat := i + gtN (leftB s i)
theorem endS_le (s : ByteArray) (i : Nat) (h : i ≤ s.size) : endS s i ≤ s.size := by
 have := gtN_le (leftB s i)
 rw [left_length] at this
 unfold endS
 omega
def fromS (s : ByteArray) (i : Nat) : Option Nat := if preB [40,63,80,60] (leftB s i) = true then some (i + 4) else if preB [40,63,60] (leftB s i) = true then some (i + 3) else none
def nameS (s : ByteArray) (i : Nat) : Option (List UInt8 × Nat) :=
 match fromS s i with
 | none => none
 | some f => if endS s i < s.size ∧ f ≤ endS s i ∧ nameB ((leftB s f).take (endS s i - f)) = true then some ((leftB s f).take (endS s i - f),endS s i + 1) else none
def SNamePost (s : ByteArray) (i : Nat) (w : World) (e : Ending) (w' : World) : Prop :=
 Below w.heap.size w w' ∧ ((nameS s i = none ∧ e = .returned (.tuple #[.string ⟨#[]⟩,.int .i64 0,wrongV 64 i (min ((endS s i : Int) + 1) s.size)])) ∨ ∃ n k b,nameS s i = some (n,k) ∧ b.toList = n ∧ e = .returned (.tuple #[.string b,.int .i64 (k : Int),wrongV 0 0 0]))
theorem wrap_in32 (n : Int) (h : -2147483648 ≤ n ∧ n ≤ 2147483647) : IntKind.i32.wrap n = n := (IntWalk.i32_left n).trans (IntWalk.wrap32_in n h)
def hexsFrom : List UInt8 → Int → Int × Nat
 | [],n => (n,0)
 | c :: t,n => if 0 ≤ hexI c.toNat then ((hexsFrom t (min (16 * n + hexI c.toNat) 1114112)).1,(hexsFrom t (min (16 * n + hexI c.toNat) 1114112)).2 + 1) else (n,0)
theorem hexs_fit : ∀ (l : List UInt8) (n : Int),(hexsFrom l n).2 ≤ l.length
 | [],n => Nat.le_refl _
 | c :: t,n => by
  unfold hexsFrom
  split
  ·have := hexs_fit t (min (16 * n + hexI c.toNat) 1114112)
   simp only [List.length_cons]
   omega
  ·exact Nat.zero_le _
theorem hexs_low : ∀ (l : List UInt8) (n : Int),0 ≤ n → 0 ≤ (hexsFrom l n).1
 | [],n,h => h
 | c :: t,n,h => by
  unfold hexsFrom
  split
  ·rename_i hc
   exact hexs_low t _ (by omega)
  ·exact h
def numberS (s : ByteArray) (i : Nat) : Option (Int × Nat) :=
 if 0 ≤ hexI (headI (leftB s i)) ∧ 0 ≤ hexI (headI (leftB s (i + 1))) then some (16 * hexI (headI (leftB s i)) + hexI (headI (leftB s (i + 1))),i + 2) else
 if ¬ headI (leftB s i) = 123 then none else
 if (hexsFrom (leftB s (i + 1)) 0).2 = 0 then none else
 if ¬ headI (leftB s (i + 1 + (hexsFrom (leftB s (i + 1)) 0).2)) = 125 then none else
 if 1114111 < (hexsFrom (leftB s (i + 1)) 0).1 then none else some ((hexsFrom (leftB s (i + 1)) 0).1,i + 1 + (hexsFrom (leftB s (i + 1)) 0).2 + 1)
theorem drewN_below (w : World) (n : Nat) : Below w.heap.size w (w.drewN n) := by
 induction n with
 | zero => exact Below.refl _ _
 | succ n ih => exact ih.drew
theorem numberS_neg {s : ByteArray} {i : Nat} (h : ¬ (0 ≤ hexI (headI (leftB s i)) ∧ 0 ≤ hexI (headI (leftB s (i + 1))))) : numberS s i =
  if ¬ headI (leftB s i) = 123 then none else
  if (hexsFrom (leftB s (i + 1)) 0).2 = 0 then none else
  if ¬ headI (leftB s (i + 1 + (hexsFrom (leftB s (i + 1)) 0).2)) = 125 then none else
  if 1114111 < (hexsFrom (leftB s (i + 1)) 0).1 then none else some ((hexsFrom (leftB s (i + 1)) 0).1,i + 1 + (hexsFrom (leftB s (i + 1)) 0).2 + 1) := by
 unfold numberS
 rw [if_neg h]
def brN : List UInt8 → Nat
 | [] => 0
 | c :: t => if c.toNat = 125 then 0 else brN t + 1
def propS (s : ByteArray) (i : Nat) : Option (List UInt8 × Nat) :=
 if s.size ≤ i then none else
 if ¬ headI (leftB s i) = 123 then some ((leftB s i).take (Utf8.decode s i).2,i + (Utf8.decode s i).2) else
 if i + 1 + brN (leftB s (i + 1)) < s.size then some ((leftB s (i + 1)).take (brN (leftB s (i + 1))),i + 1 + brN (leftB s (i + 1)) + 1) else none
theorem extract_left6 (s : ByteArray) (a b : Nat) : (s.extract a b).toList = (leftB s a).take (b - a) := by
 unfold leftB
 rw [Lib.extract_toList,← Lib.toList_data]
def digI (c : Int) : Int := if 0 ≤ hexI c then hexI c else 16
theorem digI_is (c : Int) : digI c = if 48 ≤ c ∧ c ≤ 57 then c - 48 else if 97 ≤ c ∧ c ≤ 102 then c - 87 else if 65 ≤ c ∧ c ≤ 70 then c - 55 else 16 := by
 unfold digI hexI
 repeat' split
 all_goals omega
theorem wrap_in8 (n : Int) (h : 0 ≤ n ∧ n ≤ 255) : IntKind.u8.wrap n = n := by
 unfold IntKind.wrap
 simp only [IntKind.signed,IntKind.bits]
 simp
 omega
theorem digI_lo (c : Int) : 0 ≤ digI c := by unfold digI;split <;> omega
theorem digI_hi (c : Int) : digI c ≤ 16 := by unfold digI;have := hexI_hi c;split <;> omega
def numsFrom (base M : Int) : List UInt8 → Nat → Int → Int × Nat
 | [],_,n => (n,0)
 | _ :: _,0,n => (n,0)
 | c :: t,m + 1,n => if digI c.toNat < base then ((numsFrom base M t m (min (n * base + digI c.toNat) M)).1,(numsFrom base M t m (min (n * base + digI c.toNat) M)).2 + 1) else (n,0)
theorem numsFrom_none (base M : Int) (l : List UInt8) (n : Int) : numsFrom base M l 0 n = (n,0) := by cases l <;> rfl
theorem dig_ten (c : UInt8) : digI c.toNat < 10 ↔ isDig c = true := by
 rw [isDig_iff]
 unfold digI hexI
 have := UInt8.toNat_lt c
 split <;> (repeat' split at *) <;> omega
theorem dig_val (c : UInt8) (h : isDig c = true) : digI c.toNat = (c.toNat : Int) - 48 := by
 obtain ⟨h1,h2⟩ := (isDig_iff c).1 h
 unfold digI hexI
 rw [if_pos (c := (48 : Int) ≤ (c.toNat : Int) ∧ (c.toNat : Int) ≤ 57) (by omega)]
 rw [if_pos (by omega)]
theorem nums_digs : ∀ (l : List UInt8) (m : Nat) (n : Int),l.length ≤ m → numsFrom 10 1001 l m n = digsFrom l n
 | [],m,n,_ => rfl
 | c :: t,0,n,h => by simp at h
 | c :: t,m + 1,n,h => by
  unfold numsFrom digsFrom
  by_cases hd : isDig c = true
  ·rw [if_pos ((dig_ten c).2 hd),if_pos hd,dig_val c hd,nums_digs t m _ (by simpa using h),Int.mul_comm n 10]
  ·rw [if_neg (fun e => hd ((dig_ten c).1 e)),if_neg hd]
theorem dig_hex (c : UInt8) : digI c.toNat < 16 ↔ 0 ≤ hexI c.toNat := by
 unfold digI
 have := hexI_hi (c.toNat : Int)
 split <;> omega
theorem nums_hexs : ∀ (l : List UInt8) (m : Nat) (n : Int),l.length ≤ m → numsFrom 16 1114112 l m n = hexsFrom l n
 | [],m,n,_ => rfl
 | c :: t,0,n,h => by simp at h
 | c :: t,m + 1,n,h => by
  unfold numsFrom hexsFrom
  by_cases hd : 0 ≤ hexI c.toNat
  ·have hv : digI c.toNat = hexI c.toNat := by unfold digI;rw [if_pos hd]
   rw [if_pos ((dig_hex c).2 hd),if_pos hd,hv,nums_hexs t m _ (by simpa using h),Int.mul_comm n 16]
  ·rw [if_neg (fun e => hd ((dig_hex c).1 e)),if_neg hd]
theorem nums_two (s : ByteArray) (i : Nat) : numsFrom 16 1114112 (leftB s i) 2 0 =
  if 0 ≤ hexI (headI (leftB s i)) then (if 0 ≤ hexI (headI (leftB s (i + 1))) then (16 * hexI (headI (leftB s i)) + hexI (headI (leftB s (i + 1))),2) else (hexI (headI (leftB s i)),1)) else (0,0) := by
 by_cases h0 : i < s.size
 ·have g0 := head_at s i h0
  rw [g0,left_cons s i h0]
  unfold numsFrom
  by_cases hd : 0 ≤ hexI (s[i].toNat : Int)
  ·have hv : digI (s[i].toNat : Int) = hexI (s[i].toNat : Int) := by unfold digI;rw [if_pos hd]
   have hh := hexI_hi (s[i].toNat : Int)
   rw [if_pos ((dig_hex _).2 hd),if_pos hd,hv]
   by_cases h1 : i + 1 < s.size
   ·have g1 := head_at s (i + 1) h1
    rw [g1,left_cons s (i + 1) h1]
    unfold numsFrom
    by_cases he : 0 ≤ hexI (s[i + 1].toNat : Int)
    ·have hv2 : digI (s[i + 1].toNat : Int) = hexI (s[i + 1].toNat : Int) := by unfold digI;rw [if_pos he]
     have hh2 := hexI_hi (s[i + 1].toNat : Int)
     rw [if_pos ((dig_hex _).2 he),if_pos he,hv2,numsFrom_none]
     refine Prod.ext ?_ ?_ <;> dsimp only <;> omega
    ·rw [if_neg (fun e => he ((dig_hex _).1 e)),if_neg he]
     refine Prod.ext ?_ ?_ <;> dsimp only <;> omega
   ·rw [left_nil s (i + 1) (by omega)]
    rw [show headI [] = -1 from rfl,show hexI (-1) = -1 from rfl,if_neg (by decide)]
    unfold numsFrom
    refine Prod.ext ?_ ?_ <;> dsimp only <;> omega
  ·rw [if_neg (fun e => hd ((dig_hex _).1 e)),if_neg hd]
 ·rw [left_nil s i (by omega)]
  rfl
def toN (c : UInt8) : List UInt8 → Nat
 | [] => 0
 | b :: t => if b = c then 0 else toN c t + 1
theorem toN_le (c : UInt8) : ∀ l : List UInt8,toN c l ≤ l.length
 | [] => Nat.le_refl _
 | b :: t => by
  unfold toN
  have := toN_le c t
  split <;> simp <;> omega
theorem toN_index (c : UInt8) : ∀ l : List UInt8,Lib.indexByte l c = if toN c l < l.length then (toN c l : Int) else -1
 | [] => rfl
 | b :: t => by
  have ih := toN_index c t
  unfold Lib.indexByte toN
  by_cases h : b = c
  ·subst h
   simp
  ·rw [if_neg h,if_neg (by simpa using h),ih]
   have := toN_le c t
   by_cases hl : toN c t < t.length
   ·rw [if_pos hl,if_neg (by simp only [beq_iff_eq];omega),if_pos (by simp only [List.length_cons];omega)]
    omega
   ·rw [if_neg hl,if_pos (by rfl),if_neg (by simp only [List.length_cons];omega)]
theorem toN_gt : ∀ l : List UInt8,gtN l = toN 62 l
 | [] => rfl
 | b :: t => by
  unfold gtN toN
  rw [toN_gt t]
  by_cases h : b = 62
  ·rw [if_pos h,if_pos (by rw [h];rfl)]
  ·rw [if_neg h,if_neg (fun e => h (UInt8.toNat_inj.1 (by rw [e];rfl)))]
theorem toN_br : ∀ l : List UInt8,brN l = toN 125 l
 | [] => rfl
 | b :: t => by
  unfold brN toN
  rw [toN_br t]
  by_cases h : b = 125
  ·rw [if_pos h,if_pos (by rw [h];rfl)]
  ·rw [if_neg h,if_neg (fun e => h (UInt8.toNat_inj.1 (by rw [e];rfl)))]
theorem pre_left (s t : ByteArray) (i : Nat) : Lib.hasPrefix (s.extract i s.size).data.toList t.data.toList = preB t.toList (leftB s i) := by
 rw [← Lib.hasPrefix_of_take,← Lib.toList_data,← Lib.toList_data,Lib.extract_toList,← Lib.toList_data]
 unfold preB leftB
 rw [List.take_of_length_le (l := s.toList.drop i) (by rw [List.length_drop,Lib.toList_data,← Lib.size_eq];exact Nat.le_refl _)]
 cases h : (s.toList.drop i).take t.toList.length == t.toList
 ·rw [Bool.and_false]
 ·rw [Bool.and_true]
  have := congrArg List.length (beq_iff_eq.1 h)
  rw [List.length_take] at this
  exact decide_eq_true (by omega)
theorem extract_whole (s : ByteArray) (i : Nat) : (s.extract i s.size).toList = leftB s i := by
 unfold leftB
 rw [Lib.extract_toList,← Lib.toList_data,List.take_of_length_le (by rw [List.length_drop,Lib.toList_data,← Lib.size_eq];exact Nat.le_refl _)]
theorem pre_one (c : UInt8) (s : ByteArray) (i : Nat) : preB [c] (leftB s i) = decide (headI (leftB s i) = (c.toNat : Int)) := by
 by_cases h : i < s.size
 ·rw [left_cons s i h]
  unfold preB headI
  simp only [List.length_singleton,List.take_succ_cons,List.take_zero]
  by_cases e : s[i] = c
  ·rw [e]
   simp
  ·rw [decide_eq_false (fun h => e (UInt8.toNat_inj.1 (by omega)))]
   exact beq_eq_false_iff_ne.2 fun h => e (List.head_eq_of_cons_eq h)
 ·rw [left_nil s i (by omega)]
  unfold preB
  rw [show headI [] = -1 from rfl,decide_eq_false (by omega)]
  rfl
theorem pre_fits {a l : List UInt8} (h : preB a l = true) : a.length ≤ l.length := by
 unfold preB at h
 have := congrArg List.length (beq_iff_eq.1 h)
 rw [List.length_take] at this
 omega
end Go.Proofs.YthnddabcmhplkaaGreatDoor
