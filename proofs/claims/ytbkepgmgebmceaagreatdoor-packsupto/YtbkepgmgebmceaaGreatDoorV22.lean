import Derived.Shelf.SlGeneric
import Derived.Shelf.Small.Bits
import Derived.Shelf.Small.Wraps
import Derived.Shelf.Sort.Plain
import Derived.Shelf.Slices.CompactS
import Derived.Shelf.Slices.In.SortNone
import Derived.Shelf.SlSortCmp.WholeK
import Derived.Shelf.SlSortCmp.NoneTotal
import Derived.Shelf.Spec.SearchS
import Derived.Ground.NamesProg
import Derived.Ground.Names2Prog
import Derived.Ground.SlsfProg
import Derived.Test.YtbkepgmgebmceaaGreatDoorProg
namespace Go.Proofs
open Go.Shelf
def Tryz.lays122_ren : Go.Shelf.Ren := ⟨fun | 122 => 228 | 215 => 271 | n => n, fun | 3 => 3 | 4 => 4 | n => n, fun | n => n⟩
theorem Tryz.lays122 : Go.Proofs.Lays.n122 Tryz.prog Tryz.lays122_ren := {
  mixed := by kernel_rfl
  f122 := Tryz.func228.trans (congrArg some (by kernel_rfl))
  f215 := Tryz.func271.trans (congrArg some (by kernel_rfl))
  t3 := Tryz.underlying3
  a3 := Tryz.isAgg3
  z3 := Tryz.sizeOf3
  v3 := Tryz.zeroValue3
  t4 := Tryz.underlying4
  a4 := Tryz.isAgg4
  z4 := Tryz.sizeOf4
  v4 := Tryz.zeroValue4 }
open Go.RowKit in
theorem Tryz.cmp_Compare_int (x y : Int) (w : World) :
    Calls Tryz.prog 228 #[.int .i64 x, .int .i64 y] w fun e w' => e = .returned (.int .i64 (Lib.compareInt x y)) ∧ w' = w := Any.cmp_Compare_int Tryz.lays122 x y w
def Tryz.lays190_ren : Go.Shelf.Ren := ⟨fun | 190 => 265 | 125 => 215 | 258 => 318 | 128 => 292 | 129 => 293 | 302 => 364 | 303 => 365 | 304 => 366 | 305 => 367 | 306 => 368 | 307 => 369 | 308 => 319 | 309 => 370 | 310 => 371 | 333 => 393 | 329 => 336 | 330 => 337 | 334 => 394 | 335 => 395 | 336 => 372 | 344 => 407 | n => n, fun | 31 => 67 | 9 => 9 | 3 => 3 | 46 => 307 | 0 => 0 | 51 => 216 | 53 => 120 | 4 => 4 | 183 => 393 | 182 => 392 | 131 => 75 | 5 => 5 | 218 => 436 | 222 => 439 | 228 => 466 | 229 => 467 | n => n, fun | n => n⟩
theorem Tryz.lays190 : Go.Proofs.Lays.n190 Tryz.prog Tryz.lays190_ren := {
  mixed := by kernel_rfl
  f125 := Tryz.func215.trans (congrArg some (by kernel_rfl))
  f128 := Tryz.func292.trans (congrArg some (by kernel_rfl))
  f129 := Tryz.func293.trans (congrArg some (by kernel_rfl))
  f190 := Tryz.func265.trans (congrArg some (by kernel_rfl))
  f258 := Tryz.func318.trans (congrArg some (by kernel_rfl))
  f302 := Tryz.func364.trans (congrArg some (by kernel_rfl))
  f303 := Tryz.func365.trans (congrArg some (by kernel_rfl))
  f304 := Tryz.func366.trans (congrArg some (by kernel_rfl))
  f305 := Tryz.func367.trans (congrArg some (by kernel_rfl))
  f306 := Tryz.func368.trans (congrArg some (by kernel_rfl))
  f307 := Tryz.func369.trans (congrArg some (by kernel_rfl))
  f308 := Tryz.func319.trans (congrArg some (by kernel_rfl))
  f309 := Tryz.func370.trans (congrArg some (by kernel_rfl))
  f310 := Tryz.func371.trans (congrArg some (by kernel_rfl))
  f329 := Tryz.func336.trans (congrArg some (by kernel_rfl))
  f330 := Tryz.func337.trans (congrArg some (by kernel_rfl))
  f333 := Tryz.func393.trans (congrArg some (by kernel_rfl))
  f334 := Tryz.func394.trans (congrArg some (by kernel_rfl))
  f335 := Tryz.func395.trans (congrArg some (by kernel_rfl))
  f336 := Tryz.func372.trans (congrArg some (by kernel_rfl))
  f344 := Tryz.func407.trans (congrArg some (by kernel_rfl))
  t0 := Tryz.underlying0
  a0 := Tryz.isAgg0
  z0 := Tryz.sizeOf0
  v0 := Tryz.zeroValue0
  t3 := Tryz.underlying3
  a3 := Tryz.isAgg3
  z3 := Tryz.sizeOf3
  v3 := Tryz.zeroValue3
  t4 := Tryz.underlying4
  a4 := Tryz.isAgg4
  z4 := Tryz.sizeOf4
  v4 := Tryz.zeroValue4
  t5 := Tryz.underlying5
  a5 := Tryz.isAgg5
  z5 := Tryz.sizeOf5
  v5 := Tryz.zeroValue5
  t9 := Tryz.underlying9
  a9 := Tryz.isAgg9
  z9 := Tryz.sizeOf9
  v9 := Tryz.zeroValue9
  t31 := Tryz.underlying67
  a31 := Tryz.isAgg67
  z31 := Tryz.sizeOf67
  v31 := Tryz.zeroValue67
  t46 := Tryz.underlying307
  a46 := Tryz.isAgg307
  z46 := Tryz.sizeOf307
  v46 := Tryz.zeroValue307
  t51 := Tryz.underlying216
  a51 := Tryz.isAgg216
  z51 := Tryz.sizeOf216
  v51 := Tryz.zeroValue216
  t53 := Tryz.underlying120
  a53 := Tryz.isAgg120
  z53 := Tryz.sizeOf120
  v53 := Tryz.zeroValue120
  t131 := Tryz.underlying75
  a131 := Tryz.isAgg75
  z131 := Tryz.sizeOf75
  v131 := Tryz.zeroValue75
  t182 := Tryz.underlying392
  a182 := Tryz.isAgg392
  z182 := Tryz.sizeOf392
  v182 := Tryz.zeroValue392
  t183 := Tryz.underlying393
  a183 := Tryz.isAgg393
  z183 := Tryz.sizeOf393
  v183 := Tryz.zeroValue393
  t218 := Tryz.underlying436
  a218 := Tryz.isAgg436
  z218 := Tryz.sizeOf436
  v218 := Tryz.zeroValue436
  t222 := Tryz.underlying439
  a222 := Tryz.isAgg439
  z222 := Tryz.sizeOf439
  v222 := Tryz.zeroValue439
  t228 := Tryz.underlying466
  a228 := Tryz.isAgg466
  z228 := Tryz.sizeOf466
  v228 := Tryz.zeroValue466
  t229 := Tryz.underlying467
  a229 := Tryz.isAgg467
  z229 := Tryz.sizeOf467
  v229 := Tryz.zeroValue467 }
open Go.Sort Go.RowKit in
theorem Tryz.slices_Sort_string (blk off cap : Nat) (ss : List (List UInt8)) (w : World) (hH : Holds encStr w blk off ss.toArray) (hblk : blk < w.heap.size) (hsz : ss.length < 4611686018427387904) :
    Calls Tryz.prog 265 #[.slice (some ⟨blk, off, none⟩) ss.length cap] w fun e w' =>
      e = .returned (.tuple #[]) ∧ ∃ n os, w' = grow (putRow encStr (Sort.ahead w n) blk off (ss.mergeSort fun x y => decide (x ≤ y)).toArray) os := Any.slices_Sort_string Tryz.lays190 blk off cap ss w hH hblk hsz
def Tryz.lays194_ren : Go.Shelf.Ren := ⟨fun | 194 => 266 | n => n, fun | 31 => 67 | 9 => 9 | 3 => 3 | 4 => 4 | 0 => 0 | n => n, fun | n => n⟩
theorem Tryz.lays194 : Go.Proofs.Lays.n194 Tryz.prog Tryz.lays194_ren := {
  mixed := by kernel_rfl
  f194 := Tryz.func266.trans (congrArg some (by kernel_rfl))
  t0 := Tryz.underlying0
  a0 := Tryz.isAgg0
  z0 := Tryz.sizeOf0
  v0 := Tryz.zeroValue0
  t3 := Tryz.underlying3
  a3 := Tryz.isAgg3
  z3 := Tryz.sizeOf3
  v3 := Tryz.zeroValue3
  t4 := Tryz.underlying4
  a4 := Tryz.isAgg4
  z4 := Tryz.sizeOf4
  v4 := Tryz.zeroValue4
  t9 := Tryz.underlying9
  a9 := Tryz.isAgg9
  z9 := Tryz.sizeOf9
  v9 := Tryz.zeroValue9
  t31 := Tryz.underlying67
  a31 := Tryz.isAgg67
  z31 := Tryz.sizeOf67
  v31 := Tryz.zeroValue67 }
open Go.RowKit Go.Lib Go.Sort in
theorem Tryz.slices_Compact_string (blk off cap : Nat) (zs : List (List UInt8)) (w : World) (hH : Holds encStr w blk off zs.toArray) (hsz : zs.length ≤ 9223372036854775807) (hcap : zs.length ≤ cap) :
    Calls Tryz.prog 266 #[.slice (some ⟨blk, off, none⟩) zs.length cap] w fun e w' => e = .returned (.slice (some ⟨blk, off, none⟩) (Lib.compact zs).length cap) ∧ ∃ q, w' = putRow encStr (Sort.ahead w q) blk off (Lib.compact zs ++ List.replicate (zs.length - (Lib.compact zs).length) []).toArray := Any.slices_Compact_string Tryz.lays194 blk off cap zs w hH hsz hcap
open Go.RowKit Go.Lib Go.Sort in
theorem Tryz.slices_Compact_string_empty (a : Option Addr) (cap : Nat) (w : World) :
    Calls Tryz.prog 266 #[.slice a 0 cap] w fun e w' => e = .returned (.slice a 0 cap) ∧ w' = w := Any.slices_Compact_string_empty Tryz.lays194 a cap w
open Go.RowKit Go.Sort in
theorem Tryz.slices_Sort_string_none (p : Option Addr) (cap : Nat) (w : World) :
    Calls Tryz.prog 265 #[.slice p 0 cap] w fun e w' => e = .returned (.tuple #[]) ∧ w' = w := Any.slices_Sort_string_none Tryz.lays190 p cap w
def Tryz.sortDoc_ren : Go.Shelf.Ren := ⟨fun | 6 => 236 | 15 => 215 | 14 => 304 | 28 => 292 | 29 => 293 | 20 => 349 | 21 => 350 | 22 => 351 | 23 => 352 | 24 => 353 | 25 => 354 | 26 => 355 | 27 => 356 | 46 => 384 | 47 => 336 | 48 => 337 | 49 => 385 | 50 => 386 | 57 => 402 | n => n, fun | 22 => 66 | 24 => 246 | 25 => 338 | 3 => 3 | 39 => 307 | 0 => 0 | 53 => 216 | 55 => 120 | 4 => 4 | 46 => 393 | 45 => 392 | 50 => 75 | 5 => 5 | 9 => 9 | 66 => 436 | 70 => 439 | 76 => 466 | 77 => 467 | n => n, fun | n => n⟩
theorem Tryz.sortDoc : Go.Proofs.SlLaysF0.n6 Tryz.prog Tryz.sortDoc_ren := {
  mixed := by kernel_rfl
  f6 := ⟨Tryz.f236.name, by decide, Tryz.func236.trans (congrArg some (by kernel_rfl))⟩
  f14 := ⟨Tryz.f304.name, by decide, Tryz.func304.trans (congrArg some (by kernel_rfl))⟩
  f15 := Tryz.func215.trans (congrArg some (by kernel_rfl))
  f20 := ⟨Tryz.f349.name, by decide, Tryz.func349.trans (congrArg some (by kernel_rfl))⟩
  f21 := ⟨Tryz.f350.name, by decide, Tryz.func350.trans (congrArg some (by kernel_rfl))⟩
  f22 := ⟨Tryz.f351.name, by decide, Tryz.func351.trans (congrArg some (by kernel_rfl))⟩
  f23 := ⟨Tryz.f352.name, by decide, Tryz.func352.trans (congrArg some (by kernel_rfl))⟩
  f24 := ⟨Tryz.f353.name, by decide, Tryz.func353.trans (congrArg some (by kernel_rfl))⟩
  f25 := ⟨Tryz.f354.name, by decide, Tryz.func354.trans (congrArg some (by kernel_rfl))⟩
  f26 := ⟨Tryz.f355.name, by decide, Tryz.func355.trans (congrArg some (by kernel_rfl))⟩
  f27 := ⟨Tryz.f356.name, by decide, Tryz.func356.trans (congrArg some (by kernel_rfl))⟩
  f28 := Tryz.func292.trans (congrArg some (by kernel_rfl))
  f29 := Tryz.func293.trans (congrArg some (by kernel_rfl))
  f46 := ⟨Tryz.f384.name, by decide, Tryz.func384.trans (congrArg some (by kernel_rfl))⟩
  f47 := Tryz.func336.trans (congrArg some (by kernel_rfl))
  f48 := Tryz.func337.trans (congrArg some (by kernel_rfl))
  f49 := ⟨Tryz.f385.name, by decide, Tryz.func385.trans (congrArg some (by kernel_rfl))⟩
  f50 := ⟨Tryz.f386.name, by decide, Tryz.func386.trans (congrArg some (by kernel_rfl))⟩
  f57 := ⟨Tryz.f402.name, by decide, Tryz.func402.trans (congrArg some (by kernel_rfl))⟩
  t0 := Tryz.underlying0
  a0 := Tryz.isAgg0
  z0 := Tryz.sizeOf0
  v0 := Tryz.zeroValue0
  t3 := Tryz.underlying3
  a3 := Tryz.isAgg3
  z3 := Tryz.sizeOf3
  v3 := Tryz.zeroValue3
  t4 := Tryz.underlying4
  a4 := Tryz.isAgg4
  z4 := Tryz.sizeOf4
  v4 := Tryz.zeroValue4
  t5 := Tryz.underlying5
  a5 := Tryz.isAgg5
  z5 := Tryz.sizeOf5
  v5 := Tryz.zeroValue5
  t9 := Tryz.underlying9
  a9 := Tryz.isAgg9
  z9 := Tryz.sizeOf9
  v9 := Tryz.zeroValue9
  t22 := Tryz.underlying66
  a22 := Tryz.isAgg66
  z22 := Tryz.sizeOf66
  v22 := Tryz.zeroValue66
  t25 := Tryz.underlying338
  a25 := Tryz.isAgg338
  z25 := Tryz.sizeOf338
  v25 := Tryz.zeroValue338
  t39 := Tryz.underlying307
  a39 := Tryz.isAgg307
  z39 := Tryz.sizeOf307
  v39 := Tryz.zeroValue307
  t45 := Tryz.underlying392
  a45 := Tryz.isAgg392
  z45 := Tryz.sizeOf392
  v45 := Tryz.zeroValue392
  t46 := Tryz.underlying393
  a46 := Tryz.isAgg393
  z46 := Tryz.sizeOf393
  v46 := Tryz.zeroValue393
  t50 := Tryz.underlying75
  a50 := Tryz.isAgg75
  z50 := Tryz.sizeOf75
  v50 := Tryz.zeroValue75
  t53 := Tryz.underlying216
  a53 := Tryz.isAgg216
  z53 := Tryz.sizeOf216
  v53 := Tryz.zeroValue216
  t55 := Tryz.underlying120
  a55 := Tryz.isAgg120
  z55 := Tryz.sizeOf120
  v55 := Tryz.zeroValue120
  t66 := Tryz.underlying436
  a66 := Tryz.isAgg436
  z66 := Tryz.sizeOf436
  v66 := Tryz.zeroValue436
  t70 := Tryz.underlying439
  a70 := Tryz.isAgg439
  z70 := Tryz.sizeOf439
  v70 := Tryz.zeroValue439
  t76 := Tryz.underlying466
  a76 := Tryz.isAgg466
  z76 := Tryz.sizeOf466
  v76 := Tryz.zeroValue466
  t77 := Tryz.underlying467
  a77 := Tryz.isAgg467
  z77 := Tryz.sizeOf467
  v77 := Tryz.zeroValue467 }
def Tryz.bsStr_ren : Go.Shelf.Ren := ⟨fun | 26 => 267 | 33 => 319 | 34 => 320 | 38 => 372 | n => n, fun | 24 => 67 | 9 => 9 | 3 => 3 | 4 => 4 | 40 => 307 | 0 => 0 | n => n, fun | n => n⟩
theorem Tryz.bsStr : Go.Proofs.Lays2.n26 Tryz.prog Tryz.bsStr_ren := {
  mixed := by kernel_rfl
  f26 := Tryz.func267.trans (congrArg some (by kernel_rfl))
  f33 := Tryz.func319.trans (congrArg some (by kernel_rfl))
  f34 := Tryz.func320.trans (congrArg some (by kernel_rfl))
  f38 := Tryz.func372.trans (congrArg some (by kernel_rfl))
  t0 := Tryz.underlying0
  a0 := Tryz.isAgg0
  z0 := Tryz.sizeOf0
  v0 := Tryz.zeroValue0
  t3 := Tryz.underlying3
  a3 := Tryz.isAgg3
  z3 := Tryz.sizeOf3
  v3 := Tryz.zeroValue3
  t4 := Tryz.underlying4
  a4 := Tryz.isAgg4
  z4 := Tryz.sizeOf4
  v4 := Tryz.zeroValue4
  t9 := Tryz.underlying9
  a9 := Tryz.isAgg9
  z9 := Tryz.sizeOf9
  v9 := Tryz.zeroValue9
  t24 := Tryz.underlying67
  a24 := Tryz.isAgg67
  z24 := Tryz.sizeOf67
  v24 := Tryz.zeroValue67
  t40 := Tryz.underlying307
  a40 := Tryz.isAgg307
  z40 := Tryz.sizeOf307
  v40 := Tryz.zeroValue307 }
end Go.Proofs
