/- Joined texts: TShelf. -/
import Derived.Shelf.Strings.Fields
import Derived.Test.YtabddmiffcnnjaaGreatDoorProg
namespace Go.Proofs.YtabddmiffcnnjaaGreatDoor

open Go.Shelf

def lays157_ren : Go.Shelf.Ren := ⟨fun | 157 => 94 | 229 => 130 | 199 => 131 | 261 => 179 | 311 => 232 | 312 => 233 | n => n, fun | 9 => 9 | 31 => 31 | 3 => 3 | 5 => 5 | 4 => 4 | 119 => 163 | 0 => 0 | 40 => 165 | 152 => 202 | 21 => 21 | 154 => 204 | 51 => 197 | 141 => 206 | 196 => 259 | 193 => 256 | 198 => 262 | 49 => 260 | 194 => 257 | 201 => 265 | 226 => 282 | 46 => 201 | 227 => 283 | n => n, fun | 0 => 1 | 6 => 3 | n => n⟩
theorem lays157 : Go.Proofs.Lays.n157 Tryz.prog lays157_ren := {
  mixed := by kernel_rfl
  f157 := Tryz.func94.trans (congrArg some (by kernel_rfl))
  f199 := Tryz.func131.trans (congrArg some (by kernel_rfl))
  f229 := Tryz.func130.trans (congrArg some (by kernel_rfl))
  f261 := Tryz.func179.trans (congrArg some (by kernel_rfl))
  f311 := Tryz.func232.trans (congrArg some (by kernel_rfl))
  f312 := Tryz.func233.trans (congrArg some (by kernel_rfl))
  t0 := Tryz.underlying0
  a0 := Tryz.isAgg0
  z0 := Tryz.sizeOf0
  v0 := Tryz.zeroValue0
  t3 := Tryz.underlying3
  a3 := Tryz.isAgg3
  z3 := Tryz.sizeOf3
  v3 := Tryz.zeroValue3
  t4 := Tryz.underlying4
  a4 := Tryz.isAgg4
  z4 := Tryz.sizeOf4
  v4 := Tryz.zeroValue4
  t5 := Tryz.underlying5
  a5 := Tryz.isAgg5
  z5 := Tryz.sizeOf5
  v5 := Tryz.zeroValue5
  t9 := Tryz.underlying9
  a9 := Tryz.isAgg9
  z9 := Tryz.sizeOf9
  v9 := Tryz.zeroValue9
  t21 := Tryz.underlying21
  a21 := Tryz.isAgg21
  z21 := Tryz.sizeOf21
  v21 := Tryz.zeroValue21
  t31 := Tryz.underlying31
  a31 := Tryz.isAgg31
  z31 := Tryz.sizeOf31
  v31 := Tryz.zeroValue31
  t40 := Tryz.underlying165
  a40 := Tryz.isAgg165
  z40 := Tryz.sizeOf165
  v40 := Tryz.zeroValue165
  t46 := Tryz.underlying201
  a46 := Tryz.isAgg201
  z46 := Tryz.sizeOf201
  v46 := Tryz.zeroValue201
  t49 := Tryz.underlying260
  a49 := Tryz.isAgg260
  z49 := Tryz.sizeOf260
  v49 := Tryz.zeroValue260
  t51 := Tryz.underlying197
  a51 := Tryz.isAgg197
  z51 := Tryz.sizeOf197
  v51 := Tryz.zeroValue197
  t119 := Tryz.underlying163
  a119 := Tryz.isAgg163
  z119 := Tryz.sizeOf163
  t141 := Tryz.underlying206
  a141 := Tryz.isAgg206
  z141 := Tryz.sizeOf206
  v141 := Tryz.zeroValue206
  t152 := Tryz.underlying202
  a152 := Tryz.isAgg202
  z152 := Tryz.sizeOf202
  v152 := Tryz.zeroValue202
  t154 := Tryz.underlying204
  a154 := Tryz.isAgg204
  z154 := Tryz.sizeOf204
  v154 := Tryz.zeroValue204
  t193 := Tryz.underlying256
  a193 := Tryz.isAgg256
  z193 := Tryz.sizeOf256
  v193 := Tryz.zeroValue256
  t194 := Tryz.underlying257
  a194 := Tryz.isAgg257
  z194 := Tryz.sizeOf257
  v194 := Tryz.zeroValue257
  t196 := Tryz.underlying259
  a196 := Tryz.isAgg259
  z196 := Tryz.sizeOf259
  v196 := Tryz.zeroValue259
  t198 := Tryz.underlying262
  a198 := Tryz.isAgg262
  z198 := Tryz.sizeOf262
  v198 := Tryz.zeroValue262
  t201 := Tryz.underlying265
  a201 := Tryz.isAgg265
  z201 := Tryz.sizeOf265
  v201 := Tryz.zeroValue265
  t226 := Tryz.underlying282
  a226 := Tryz.isAgg282
  z226 := Tryz.sizeOf282
  v226 := Tryz.zeroValue282
  t227 := Tryz.underlying283
  a227 := Tryz.isAgg283
  z227 := Tryz.sizeOf283
  v227 := Tryz.zeroValue283
  g0 := by kernel_rfl
  g6 := by kernel_rfl }
open Go.RowKit Go.Lib in
theorem strings_Fields (s : ByteArray) (w : World) (hs : s.size < 4294967281) (hascii : ∀ (j : Nat) b, s.data.toList[j]? = some b → b.toNat < 128) (htab : Lib.TabIs Tryz.prog w "strings.asciiSpace" .u8 Lib.asciiSpaceTab) :
    Calls Tryz.prog 94 #[.string s] w fun e w' =>
      e = .returned (.slice (some ⟨w.heap.size, 0, none⟩) (Lib.fields s.data.toList).length (Lib.fields s.data.toList).length) ∧ w' = w.alloc (.cells ((Lib.fields s.data.toList).map fun l => Value.string ⟨l.toArray⟩).toArray 9) := Any.strings_Fields lays157 (by kernel_rfl) (by kernel_rfl) s w hs hascii htab

end Go.Proofs.YtabddmiffcnnjaaGreatDoor
