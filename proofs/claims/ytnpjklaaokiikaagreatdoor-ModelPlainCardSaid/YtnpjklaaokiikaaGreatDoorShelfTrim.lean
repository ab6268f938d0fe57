/-
  Contracts of the standard library at this program, each by one application of a theorem of the shelf. Conditions: as each states.
-/
import Derived.Shelf.Strings.Trim
import Derived.Test.YtnpjklaaokiikaaGreatDoorProg
namespace Go.Proofs
open Go.Shelf
def Tryz.lays161_ren : Go.Shelf.Ren := ⟨fun | 161 => 275 | 231 => 293 | 227 => 294 | 233 => 295 | 235 => 296 | 228 => 308 | 197 => 309 | 151 => 310 | 260 => 315 | 152 => 316 | 137 => 313 | 119 => 318 | 224 => 258 | 225 => 319 | 217 => 317 | 266 => 320 | n => n, fun | 9 => 9 | 4 => 4 | 3 => 3 | 5 => 5 | 117 => 330 | 116 => 329 | 0 => 0 | 124 => 333 | 105 => 344 | 21 => 21 | 119 => 352 | 46 => 246 | 139 => 355 | 138 => 354 | n => n, fun | 3 => 5 | 4 => 6 | n => n⟩
theorem Tryz.lays161 : Go.Proofs.Lays.n161 Tryz.prog Tryz.lays161_ren := {
  mixed := by kernel_rfl
  f119 := Tryz.func318.trans (congrArg some (by kernel_rfl))
  f137 := Tryz.func313.trans (congrArg some (by kernel_rfl))
  f151 := Tryz.func310.trans (congrArg some (by kernel_rfl))
  f152 := Tryz.func316.trans (congrArg some (by kernel_rfl))
  f161 := Tryz.func275.trans (congrArg some (by kernel_rfl))
  f197 := Tryz.func309.trans (congrArg some (by kernel_rfl))
  f217 := Tryz.func317.trans (congrArg some (by kernel_rfl))
  f224 := Tryz.func258.trans (congrArg some (by kernel_rfl))
  f225 := Tryz.func319.trans (congrArg some (by kernel_rfl))
  f227 := Tryz.func294.trans (congrArg some (by kernel_rfl))
  f228 := Tryz.func308.trans (congrArg some (by kernel_rfl))
  f231 := Tryz.func293.trans (congrArg some (by kernel_rfl))
  f233 := Tryz.func295.trans (congrArg some (by kernel_rfl))
  f235 := Tryz.func296.trans (congrArg some (by kernel_rfl))
  f260 := Tryz.func315.trans (congrArg some (by kernel_rfl))
  f266 := Tryz.func320.trans (congrArg some (by kernel_rfl))
  t0 := Tryz.underlying0
  a0 := Tryz.isAgg0
  z0 := Tryz.sizeOf0
  v0 := Tryz.zeroValue0
  t3 := Tryz.underlying3
  a3 := Tryz.isAgg3
  z3 := Tryz.sizeOf3
  v3 := Tryz.zeroValue3
  t4 := Tryz.underlying4
  a4 := Tryz.isAgg4
  z4 := Tryz.sizeOf4
  v4 := Tryz.zeroValue4
  t5 := Tryz.underlying5
  a5 := Tryz.isAgg5
  z5 := Tryz.sizeOf5
  v5 := Tryz.zeroValue5
  t9 := Tryz.underlying9
  a9 := Tryz.isAgg9
  z9 := Tryz.sizeOf9
  v9 := Tryz.zeroValue9
  t21 := Tryz.underlying21
  a21 := Tryz.isAgg21
  z21 := Tryz.sizeOf21
  v21 := Tryz.zeroValue21
  t46 := Tryz.underlying246
  a46 := Tryz.isAgg246
  z46 := Tryz.sizeOf246
  v46 := Tryz.zeroValue246
  t105 := Tryz.underlying344
  a105 := Tryz.isAgg344
  z105 := Tryz.sizeOf344
  v105 := Tryz.zeroValue344
  t116 := Tryz.underlying329
  a116 := Tryz.isAgg329
  z116 := Tryz.sizeOf329
  t117 := Tryz.underlying330
  a117 := Tryz.isAgg330
  z117 := Tryz.sizeOf330
  v117 := Tryz.zeroValue330
  t119 := Tryz.underlying352
  a119 := Tryz.isAgg352
  z119 := Tryz.sizeOf352
  t124 := Tryz.underlying333
  a124 := Tryz.isAgg333
  z124 := Tryz.sizeOf333
  v124 := Tryz.zeroValue333
  t138 := Tryz.underlying354
  a138 := Tryz.isAgg354
  z138 := Tryz.sizeOf354
  v138 := Tryz.zeroValue354
  t139 := Tryz.underlying355
  a139 := Tryz.isAgg355
  z139 := Tryz.sizeOf355
  v139 := Tryz.zeroValue355
  g3 := by kernel_rfl
  g4 := by kernel_rfl }
open Go.RowKit in
theorem Tryz.strings_TrimLeft_one (s : ByteArray) (c : UInt8) (hc : c.toNat < 128) (w : World) :
    Calls Tryz.prog 275 #[.string s, .string ⟨#[c]⟩] w fun e w' => e = .returned (.string ⟨(Lib.trimLeftB s.data.toList c).toArray⟩) ∧ w' = w := Any.strings_TrimLeft_one Tryz.lays161 s c hc w
end Go.Proofs
