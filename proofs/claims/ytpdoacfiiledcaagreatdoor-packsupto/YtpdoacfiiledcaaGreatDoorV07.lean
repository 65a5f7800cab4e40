import Derived.Shelf.LaysM
import Derived.Shelf.Strconv.Itoa3
import Derived.Test.YtpdoacfiiledcaaGreatDoorProg
/-
  The contract of Itoa at this program: one laying, one application.
-/
namespace Go.Proofs
open Go.Shelf
def Tryz.laysM171_ren : Go.Shelf.Ren := ⟨fun | 171 => 260 | 243 => 349 | 246 => 402 | 283 => 440 | 284 => 441 | 285 => 442 | 286 => 443 | 129 => 340 | 317 => 458 | 318 => 459 | 319 => 460 | 320 => 461 | 337 => 466 | 338 => 312 | n => n, fun | 3 => 3 | 9 => 9 | 2 => 2 | 4 => 4 | 171 => 518 | 0 => 0 | 53 => 123 | 37 => 112 | 5 => 5 | 173 => 520 | 212 => 542 | 51 => 217 | 20 => 20 | 213 => 543 | 46 => 332 | 232 => 549 | 233 => 470 | n => n, fun | 17 => 1 | 18 => 2 | 19 => 0 | n => n⟩
theorem Tryz.laysM171 : Go.Proofs.LaysM.n171 Tryz.prog Tryz.laysM171_ren := {
  mixed := by kernel_rfl
  f129 := Tryz.func340.trans (congrArg some (by kernel_rfl))
  f171 := Tryz.func260.trans (congrArg some (by kernel_rfl))
  f243 := Tryz.func349.trans (congrArg some (by kernel_rfl))
  f246 := Tryz.func402.trans (congrArg some (by kernel_rfl))
  f283 := Tryz.func440.trans (congrArg some (by kernel_rfl))
  f284 := Tryz.func441.trans (congrArg some (by kernel_rfl))
  f285 := Tryz.func442.trans (congrArg some (by kernel_rfl))
  f286 := Tryz.func443.trans (congrArg some (by kernel_rfl))
  f317 := Tryz.func458.trans (congrArg some (by kernel_rfl))
  f318 := Tryz.func459.trans (congrArg some (by kernel_rfl))
  f319 := Tryz.func460.trans (congrArg some (by kernel_rfl))
  f320 := Tryz.func461.trans (congrArg some (by kernel_rfl))
  f337 := Tryz.func466.trans (congrArg some (by kernel_rfl))
  f338 := Tryz.func312.trans (congrArg some (by kernel_rfl))
  t0 := Tryz.underlying0
  a0 := Tryz.isAgg0
  z0 := Tryz.sizeOf0
  v0 := Tryz.zeroValue0
  t2 := Tryz.underlying2
  a2 := Tryz.isAgg2
  z2 := Tryz.sizeOf2
  v2 := Tryz.zeroValue2
  t3 := Tryz.underlying3
  a3 := Tryz.isAgg3
  z3 := Tryz.sizeOf3
  v3 := Tryz.zeroValue3
  t4 := Tryz.underlying4
  a4 := Tryz.isAgg4
  z4 := Tryz.sizeOf4
  v4 := Tryz.zeroValue4
  t5 := Tryz.underlying5
  a5 := Tryz.isAgg5
  z5 := Tryz.sizeOf5
  v5 := Tryz.zeroValue5
  t9 := Tryz.underlying9
  a9 := Tryz.isAgg9
  z9 := Tryz.sizeOf9
  v9 := Tryz.zeroValue9
  t20 := Tryz.underlying20
  a20 := Tryz.isAgg20
  z20 := Tryz.sizeOf20
  v20 := Tryz.zeroValue20
  t37 := Tryz.underlying112
  a37 := Tryz.isAgg112
  z37 := Tryz.sizeOf112
  v37 := Tryz.zeroValue112
  t46 := Tryz.underlying332
  a46 := Tryz.isAgg332
  z46 := Tryz.sizeOf332
  v46 := Tryz.zeroValue332
  t51 := Tryz.underlying217
  a51 := Tryz.isAgg217
  z51 := Tryz.sizeOf217
  v51 := Tryz.zeroValue217
  t53 := Tryz.underlying123
  a53 := Tryz.isAgg123
  z53 := Tryz.sizeOf123
  v53 := Tryz.zeroValue123
  t171 := Tryz.underlying518
  a171 := Tryz.isAgg518
  z171 := Tryz.sizeOf518
  v171 := Tryz.zeroValue518
  t173 := Tryz.underlying520
  a173 := Tryz.isAgg520
  z173 := Tryz.sizeOf520
  v173 := Tryz.zeroValue520
  t212 := Tryz.underlying542
  a212 := Tryz.isAgg542
  z212 := Tryz.sizeOf542
  v212 := Tryz.zeroValue542
  t213 := Tryz.underlying543
  a213 := Tryz.isAgg543
  z213 := Tryz.sizeOf543
  t232 := Tryz.underlying549
  a232 := Tryz.isAgg549
  z232 := Tryz.sizeOf549
  v232 := Tryz.zeroValue549
  t233 := Tryz.underlying470
  a233 := Tryz.isAgg470
  z233 := Tryz.sizeOf470
  v233 := Tryz.zeroValue470
  g17 := by kernel_rfl
  g18 := by kernel_rfl
  g19 := by kernel_rfl
  i0 := by kernel_rfl
  i2 := by kernel_rfl
  i3 := by kernel_rfl
  i4 := by kernel_rfl
  i5 := by kernel_rfl
  i9 := by kernel_rfl
  i20 := by kernel_rfl
  i37 := by kernel_rfl
  i46 := by kernel_rfl
  i51 := by kernel_rfl
  i53 := by kernel_rfl
  i171 := by kernel_rfl
  i173 := by kernel_rfl
  i212 := by kernel_rfl
  i232 := by kernel_rfl
  i233 := by kernel_rfl
  m17 := by kernel_rfl
  m18 := by kernel_rfl
  m19 := by kernel_rfl }
open Go.RowKit Go.Sort Go.Lib in
theorem Tryz.strconv_Itoa (n : Int) (h0 : -9223372036854775808 ≤ n) (h1 : n ≤ 9223372036854775807) (w : World) (htab : Lib.TabIs Tryz.prog w "internal/strconv.uint64pow10" .u64 Lib.pow10Tab) :
    Calls Tryz.prog 260 #[.int .i64 n] w fun e w' => e = .returned (.string ⟨(Lib.itoa n).toArray⟩) ∧ ∃ k os, w' = grow (w.drewN k) os := Any.strconv_Itoa Tryz.laysM171 n h0 h1 w htab
end Go.Proofs
