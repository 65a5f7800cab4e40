import Derived.Shelf.LaysM
import Derived.Shelf.Strconv.Itoa3
import Derived.Test.YtbkepgmgebmceaaGreatDoorProg
/-
  The contract of Itoa at this program: one laying, one application.
-/
namespace Go.Proofs
open Go.Shelf
def Tryz.laysM171_ren : Go.Shelf.Ren := ⟨fun | 171 => 256 | 243 => 316 | 246 => 363 | 283 => 389 | 284 => 390 | 285 => 391 | 286 => 392 | 129 => 293 | 317 => 403 | 318 => 404 | 319 => 405 | 320 => 406 | 337 => 410 | 338 => 192 | n => n, fun | 3 => 3 | 9 => 9 | 2 => 2 | 4 => 4 | 171 => 474 | 0 => 0 | 53 => 120 | 37 => 109 | 5 => 5 | 173 => 476 | 212 => 496 | 51 => 216 | 20 => 20 | 213 => 497 | 46 => 307 | 232 => 502 | 233 => 372 | n => n, fun | 17 => 1 | 18 => 2 | 19 => 0 | n => n⟩
theorem Tryz.laysM171 : Go.Proofs.LaysM.n171 Tryz.prog Tryz.laysM171_ren := {
  mixed := by kernel_rfl
  f129 := Tryz.func293.trans (congrArg some (by kernel_rfl))
  f171 := Tryz.func256.trans (congrArg some (by kernel_rfl))
  f243 := Tryz.func316.trans (congrArg some (by kernel_rfl))
  f246 := Tryz.func363.trans (congrArg some (by kernel_rfl))
  f283 := Tryz.func389.trans (congrArg some (by kernel_rfl))
  f284 := Tryz.func390.trans (congrArg some (by kernel_rfl))
  f285 := Tryz.func391.trans (congrArg some (by kernel_rfl))
  f286 := Tryz.func392.trans (congrArg some (by kernel_rfl))
  f317 := Tryz.func403.trans (congrArg some (by kernel_rfl))
  f318 := Tryz.func404.trans (congrArg some (by kernel_rfl))
  f319 := Tryz.func405.trans (congrArg some (by kernel_rfl))
  f320 := Tryz.func406.trans (congrArg some (by kernel_rfl))
  f337 := Tryz.func410.trans (congrArg some (by kernel_rfl))
  f338 := Tryz.func192.trans (congrArg some (by kernel_rfl))
  t0 := Tryz.underlying0
  a0 := Tryz.isAgg0
  z0 := Tryz.sizeOf0
  v0 := Tryz.zeroValue0
  t2 := Tryz.underlying2
  a2 := Tryz.isAgg2
  z2 := Tryz.sizeOf2
  v2 := Tryz.zeroValue2
  t3 := Tryz.underlying3
  a3 := Tryz.isAgg3
  z3 := Tryz.sizeOf3
  v3 := Tryz.zeroValue3
  t4 := Tryz.underlying4
  a4 := Tryz.isAgg4
  z4 := Tryz.sizeOf4
  v4 := Tryz.zeroValue4
  t5 := Tryz.underlying5
  a5 := Tryz.isAgg5
  z5 := Tryz.sizeOf5
  v5 := Tryz.zeroValue5
  t9 := Tryz.underlying9
  a9 := Tryz.isAgg9
  z9 := Tryz.sizeOf9
  v9 := Tryz.zeroValue9
  t20 := Tryz.underlying20
  a20 := Tryz.isAgg20
  z20 := Tryz.sizeOf20
  v20 := Tryz.zeroValue20
  t37 := Tryz.underlying109
  a37 := Tryz.isAgg109
  z37 := Tryz.sizeOf109
  v37 := Tryz.zeroValue109
  t46 := Tryz.underlying307
  a46 := Tryz.isAgg307
  z46 := Tryz.sizeOf307
  v46 := Tryz.zeroValue307
  t51 := Tryz.underlying216
  a51 := Tryz.isAgg216
  z51 := Tryz.sizeOf216
  v51 := Tryz.zeroValue216
  t53 := Tryz.underlying120
  a53 := Tryz.isAgg120
  z53 := Tryz.sizeOf120
  v53 := Tryz.zeroValue120
  t171 := Tryz.underlying474
  a171 := Tryz.isAgg474
  z171 := Tryz.sizeOf474
  v171 := Tryz.zeroValue474
  t173 := Tryz.underlying476
  a173 := Tryz.isAgg476
  z173 := Tryz.sizeOf476
  v173 := Tryz.zeroValue476
  t212 := Tryz.underlying496
  a212 := Tryz.isAgg496
  z212 := Tryz.sizeOf496
  v212 := Tryz.zeroValue496
  t213 := Tryz.underlying497
  a213 := Tryz.isAgg497
  z213 := Tryz.sizeOf497
  t232 := Tryz.underlying502
  a232 := Tryz.isAgg502
  z232 := Tryz.sizeOf502
  v232 := Tryz.zeroValue502
  t233 := Tryz.underlying372
  a233 := Tryz.isAgg372
  z233 := Tryz.sizeOf372
  v233 := Tryz.zeroValue372
  g17 := by kernel_rfl
  g18 := by kernel_rfl
  g19 := by kernel_rfl
  i0 := by kernel_rfl
  i2 := by kernel_rfl
  i3 := by kernel_rfl
  i4 := by kernel_rfl
  i5 := by kernel_rfl
  i9 := by kernel_rfl
  i20 := by kernel_rfl
  i37 := by kernel_rfl
  i46 := by kernel_rfl
  i51 := by kernel_rfl
  i53 := by kernel_rfl
  i171 := by kernel_rfl
  i173 := by kernel_rfl
  i212 := by kernel_rfl
  i232 := by kernel_rfl
  i233 := by kernel_rfl
  m17 := by kernel_rfl
  m18 := by kernel_rfl
  m19 := by kernel_rfl }
open Go.RowKit Go.Sort Go.Lib in
theorem Tryz.strconv_Itoa (n : Int) (h0 : -9223372036854775808 ≤ n) (h1 : n ≤ 9223372036854775807) (w : World) (htab : Lib.TabIs Tryz.prog w "internal/strconv.uint64pow10" .u64 Lib.pow10Tab) :
    Calls Tryz.prog 256 #[.int .i64 n] w fun e w' => e = .returned (.string ⟨(Lib.itoa n).toArray⟩) ∧ ∃ k os, w' = grow (w.drewN k) os := Any.strconv_Itoa Tryz.laysM171 n h0 h1 w htab
end Go.Proofs
