import Derived.Shelf.SlGeneric
import Derived.Shelf.Small.Bits
import Derived.Shelf.Small.Wraps
import Derived.Shelf.Sort.Plain
import Derived.Shelf.Slices.CompactS
import Derived.Shelf.Slices.In.SortNone
import Derived.Shelf.SlSortCmp.WholeK
import Derived.Shelf.SlSortCmp.NoneTotal
import Derived.Shelf.Spec.SearchS
import Derived.Ground.NamesProg
import Derived.Ground.Names2Prog
import Derived.Ground.SlsfProg
import Derived.Test.YtpdoacfiiledcaaGreatDoorProg
namespace Go.Proofs
open Go.Shelf
def Tryz.lays122_ren : Go.Shelf.Ren := ⟨fun | 122 => 259 | 215 => 318 | n => n, fun | 3 => 3 | 4 => 4 | n => n, fun | n => n⟩
theorem Tryz.lays122 : Go.Proofs.Lays.n122 Tryz.prog Tryz.lays122_ren := {
  mixed := by kernel_rfl
  f122 := Tryz.func259.trans (congrArg some (by kernel_rfl))
  f215 := Tryz.func318.trans (congrArg some (by kernel_rfl))
  t3 := Tryz.underlying3
  a3 := Tryz.isAgg3
  z3 := Tryz.sizeOf3
  v3 := Tryz.zeroValue3
  t4 := Tryz.underlying4
  a4 := Tryz.isAgg4
  z4 := Tryz.sizeOf4
  v4 := Tryz.zeroValue4 }
open Go.RowKit in
theorem Tryz.cmp_Compare_int (x y : Int) (w : World) :
    Calls Tryz.prog 259 #[.int .i64 x, .int .i64 y] w fun e w' => e = .returned (.int .i64 (Lib.compareInt x y)) ∧ w' = w := Any.cmp_Compare_int Tryz.lays122 x y w
def Tryz.lays190_ren : Go.Shelf.Ren := ⟨fun | 190 => 313 | 125 => 246 | 258 => 373 | 128 => 339 | 129 => 340 | 302 => 421 | 303 => 422 | 304 => 423 | 305 => 424 | 306 => 425 | 307 => 426 | 308 => 354 | 309 => 427 | 310 => 428 | 333 => 449 | 329 => 389 | 330 => 390 | 334 => 450 | 335 => 451 | 336 => 404 | 344 => 463 | n => n, fun | 31 => 67 | 9 => 9 | 3 => 3 | 46 => 332 | 0 => 0 | 51 => 217 | 53 => 123 | 4 => 4 | 183 => 435 | 182 => 434 | 131 => 86 | 5 => 5 | 218 => 482 | 222 => 485 | 228 => 513 | 229 => 514 | n => n, fun | n => n⟩
theorem Tryz.lays190 : Go.Proofs.Lays.n190 Tryz.prog Tryz.lays190_ren := {
  mixed := by kernel_rfl
  f125 := Tryz.func246.trans (congrArg some (by kernel_rfl))
  f128 := Tryz.func339.trans (congrArg some (by kernel_rfl))
  f129 := Tryz.func340.trans (congrArg some (by kernel_rfl))
  f190 := Tryz.func313.trans (congrArg some (by kernel_rfl))
  f258 := Tryz.func373.trans (congrArg some (by kernel_rfl))
  f302 := Tryz.func421.trans (congrArg some (by kernel_rfl))
  f303 := Tryz.func422.trans (congrArg some (by kernel_rfl))
  f304 := Tryz.func423.trans (congrArg some (by kernel_rfl))
  f305 := Tryz.func424.trans (congrArg some (by kernel_rfl))
  f306 := Tryz.func425.trans (congrArg some (by kernel_rfl))
  f307 := Tryz.func426.trans (congrArg some (by kernel_rfl))
  f308 := Tryz.func354.trans (congrArg some (by kernel_rfl))
  f309 := Tryz.func427.trans (congrArg some (by kernel_rfl))
  f310 := Tryz.func428.trans (congrArg some (by kernel_rfl))
  f329 := Tryz.func389.trans (congrArg some (by kernel_rfl))
  f330 := Tryz.func390.trans (congrArg some (by kernel_rfl))
  f333 := Tryz.func449.trans (congrArg some (by kernel_rfl))
  f334 := Tryz.func450.trans (congrArg some (by kernel_rfl))
  f335 := Tryz.func451.trans (congrArg some (by kernel_rfl))
  f336 := Tryz.func404.trans (congrArg some (by kernel_rfl))
  f344 := Tryz.func463.trans (congrArg some (by kernel_rfl))
  t0 := Tryz.underlying0
  a0 := Tryz.isAgg0
  z0 := Tryz.sizeOf0
  v0 := Tryz.zeroValue0
  t3 := Tryz.underlying3
  a3 := Tryz.isAgg3
  z3 := Tryz.sizeOf3
  v3 := Tryz.zeroValue3
  t4 := Tryz.underlying4
  a4 := Tryz.isAgg4
  z4 := Tryz.sizeOf4
  v4 := Tryz.zeroValue4
  t5 := Tryz.underlying5
  a5 := Tryz.isAgg5
  z5 := Tryz.sizeOf5
  v5 := Tryz.zeroValue5
  t9 := Tryz.underlying9
  a9 := Tryz.isAgg9
  z9 := Tryz.sizeOf9
  v9 := Tryz.zeroValue9
  t31 := Tryz.underlying67
  a31 := Tryz.isAgg67
  z31 := Tryz.sizeOf67
  v31 := Tryz.zeroValue67
  t46 := Tryz.underlying332
  a46 := Tryz.isAgg332
  z46 := Tryz.sizeOf332
  v46 := Tryz.zeroValue332
  t51 := Tryz.underlying217
  a51 := Tryz.isAgg217
  z51 := Tryz.sizeOf217
  v51 := Tryz.zeroValue217
  t53 := Tryz.underlying123
  a53 := Tryz.isAgg123
  z53 := Tryz.sizeOf123
  v53 := Tryz.zeroValue123
  t131 := Tryz.underlying86
  a131 := Tryz.isAgg86
  z131 := Tryz.sizeOf86
  v131 := Tryz.zeroValue86
  t182 := Tryz.underlying434
  a182 := Tryz.isAgg434
  z182 := Tryz.sizeOf434
  v182 := Tryz.zeroValue434
  t183 := Tryz.underlying435
  a183 := Tryz.isAgg435
  z183 := Tryz.sizeOf435
  v183 := Tryz.zeroValue435
  t218 := Tryz.underlying482
  a218 := Tryz.isAgg482
  z218 := Tryz.sizeOf482
  v218 := Tryz.zeroValue482
  t222 := Tryz.underlying485
  a222 := Tryz.isAgg485
  z222 := Tryz.sizeOf485
  v222 := Tryz.zeroValue485
  t228 := Tryz.underlying513
  a228 := Tryz.isAgg513
  z228 := Tryz.sizeOf513
  v228 := Tryz.zeroValue513
  t229 := Tryz.underlying514
  a229 := Tryz.isAgg514
  z229 := Tryz.sizeOf514
  v229 := Tryz.zeroValue514 }
open Go.Sort Go.RowKit in
theorem Tryz.slices_Sort_string (blk off cap : Nat) (ss : List (List UInt8)) (w : World) (hH : Holds encStr w blk off ss.toArray) (hblk : blk < w.heap.size) (hsz : ss.length < 4611686018427387904) :
    Calls Tryz.prog 313 #[.slice (some ⟨blk, off, none⟩) ss.length cap] w fun e w' =>
      e = .returned (.tuple #[]) ∧ ∃ n os, w' = grow (putRow encStr (Sort.ahead w n) blk off (ss.mergeSort fun x y => decide (x ≤ y)).toArray) os := Any.slices_Sort_string Tryz.lays190 blk off cap ss w hH hblk hsz
def Tryz.lays194_ren : Go.Shelf.Ren := ⟨fun | 194 => 314 | n => n, fun | 31 => 67 | 9 => 9 | 3 => 3 | 4 => 4 | 0 => 0 | n => n, fun | n => n⟩
theorem Tryz.lays194 : Go.Proofs.Lays.n194 Tryz.prog Tryz.lays194_ren := {
  mixed := by kernel_rfl
  f194 := Tryz.func314.trans (congrArg some (by kernel_rfl))
  t0 := Tryz.underlying0
  a0 := Tryz.isAgg0
  z0 := Tryz.sizeOf0
  v0 := Tryz.zeroValue0
  t3 := Tryz.underlying3
  a3 := Tryz.isAgg3
  z3 := Tryz.sizeOf3
  v3 := Tryz.zeroValue3
  t4 := Tryz.underlying4
  a4 := Tryz.isAgg4
  z4 := Tryz.sizeOf4
  v4 := Tryz.zeroValue4
  t9 := Tryz.underlying9
  a9 := Tryz.isAgg9
  z9 := Tryz.sizeOf9
  v9 := Tryz.zeroValue9
  t31 := Tryz.underlying67
  a31 := Tryz.isAgg67
  z31 := Tryz.sizeOf67
  v31 := Tryz.zeroValue67 }
open Go.RowKit Go.Lib Go.Sort in
theorem Tryz.slices_Compact_string (blk off cap : Nat) (zs : List (List UInt8)) (w : World) (hH : Holds encStr w blk off zs.toArray) (hsz : zs.length ≤ 9223372036854775807) (hcap : zs.length ≤ cap) :
    Calls Tryz.prog 314 #[.slice (some ⟨blk, off, none⟩) zs.length cap] w fun e w' => e = .returned (.slice (some ⟨blk, off, none⟩) (Lib.compact zs).length cap) ∧ ∃ q, w' = putRow encStr (Sort.ahead w q) blk off (Lib.compact zs ++ List.replicate (zs.length - (Lib.compact zs).length) []).toArray := Any.slices_Compact_string Tryz.lays194 blk off cap zs w hH hsz hcap
open Go.RowKit Go.Lib Go.Sort in
theorem Tryz.slices_Compact_string_empty (a : Option Addr) (cap : Nat) (w : World) :
    Calls Tryz.prog 314 #[.slice a 0 cap] w fun e w' => e = .returned (.slice a 0 cap) ∧ w' = w := Any.slices_Compact_string_empty Tryz.lays194 a cap w
open Go.RowKit Go.Sort in
theorem Tryz.slices_Sort_string_none (p : Option Addr) (cap : Nat) (w : World) :
    Calls Tryz.prog 313 #[.slice p 0 cap] w fun e w' => e = .returned (.tuple #[]) ∧ w' = w := Any.slices_Sort_string_none Tryz.lays190 p cap w
def Tryz.sortDoc_ren : Go.Shelf.Ren := ⟨fun | 6 => 283 | 15 => 246 | 14 => 358 | 28 => 339 | 29 => 340 | 20 => 405 | 21 => 406 | 22 => 407 | 23 => 408 | 24 => 409 | 25 => 410 | 26 => 411 | 27 => 412 | 46 => 444 | 47 => 389 | 48 => 390 | 49 => 445 | 50 => 446 | 57 => 462 | n => n, fun | 22 => 66 | 24 => 261 | 25 => 380 | 3 => 3 | 39 => 332 | 0 => 0 | 53 => 217 | 55 => 123 | 4 => 4 | 46 => 435 | 45 => 434 | 50 => 86 | 5 => 5 | 9 => 9 | 66 => 482 | 70 => 485 | 76 => 513 | 77 => 514 | n => n, fun | n => n⟩
theorem Tryz.sortDoc : Go.Proofs.SlLaysF0.n6 Tryz.prog Tryz.sortDoc_ren := {
  mixed := by kernel_rfl
  f6 := ⟨Tryz.f283.name, by decide, Tryz.func283.trans (congrArg some (by kernel_rfl))⟩
  f14 := ⟨Tryz.f358.name, by decide, Tryz.func358.trans (congrArg some (by kernel_rfl))⟩
  f15 := Tryz.func246.trans (congrArg some (by kernel_rfl))
  f20 := ⟨Tryz.f405.name, by decide, Tryz.func405.trans (congrArg some (by kernel_rfl))⟩
  f21 := ⟨Tryz.f406.name, by decide, Tryz.func406.trans (congrArg some (by kernel_rfl))⟩
  f22 := ⟨Tryz.f407.name, by decide, Tryz.func407.trans (congrArg some (by kernel_rfl))⟩
  f23 := ⟨Tryz.f408.name, by decide, Tryz.func408.trans (congrArg some (by kernel_rfl))⟩
  f24 := ⟨Tryz.f409.name, by decide, Tryz.func409.trans (congrArg some (by kernel_rfl))⟩
  f25 := ⟨Tryz.f410.name, by decide, Tryz.func410.trans (congrArg some (by kernel_rfl))⟩
  f26 := ⟨Tryz.f411.name, by decide, Tryz.func411.trans (congrArg some (by kernel_rfl))⟩
  f27 := ⟨Tryz.f412.name, by decide, Tryz.func412.trans (congrArg some (by kernel_rfl))⟩
  f28 := Tryz.func339.trans (congrArg some (by kernel_rfl))
  f29 := Tryz.func340.trans (congrArg some (by kernel_rfl))
  f46 := ⟨Tryz.f444.name, by decide, Tryz.func444.trans (congrArg some (by kernel_rfl))⟩
  f47 := Tryz.func389.trans (congrArg some (by kernel_rfl))
  f48 := Tryz.func390.trans (congrArg some (by kernel_rfl))
  f49 := ⟨Tryz.f445.name, by decide, Tryz.func445.trans (congrArg some (by kernel_rfl))⟩
  f50 := ⟨Tryz.f446.name, by decide, Tryz.func446.trans (congrArg some (by kernel_rfl))⟩
  f57 := ⟨Tryz.f462.name, by decide, Tryz.func462.trans (congrArg some (by kernel_rfl))⟩
  t0 := Tryz.underlying0
  a0 := Tryz.isAgg0
  z0 := Tryz.sizeOf0
  v0 := Tryz.zeroValue0
  t3 := Tryz.underlying3
  a3 := Tryz.isAgg3
  z3 := Tryz.sizeOf3
  v3 := Tryz.zeroValue3
  t4 := Tryz.underlying4
  a4 := Tryz.isAgg4
  z4 := Tryz.sizeOf4
  v4 := Tryz.zeroValue4
  t5 := Tryz.underlying5
  a5 := Tryz.isAgg5
  z5 := Tryz.sizeOf5
  v5 := Tryz.zeroValue5
  t9 := Tryz.underlying9
  a9 := Tryz.isAgg9
  z9 := Tryz.sizeOf9
  v9 := Tryz.zeroValue9
  t22 := Tryz.underlying66
  a22 := Tryz.isAgg66
  z22 := Tryz.sizeOf66
  v22 := Tryz.zeroValue66
  t25 := Tryz.underlying380
  a25 := Tryz.isAgg380
  z25 := Tryz.sizeOf380
  v25 := Tryz.zeroValue380
  t39 := Tryz.underlying332
  a39 := Tryz.isAgg332
  z39 := Tryz.sizeOf332
  v39 := Tryz.zeroValue332
  t45 := Tryz.underlying434
  a45 := Tryz.isAgg434
  z45 := Tryz.sizeOf434
  v45 := Tryz.zeroValue434
  t46 := Tryz.underlying435
  a46 := Tryz.isAgg435
  z46 := Tryz.sizeOf435
  v46 := Tryz.zeroValue435
  t50 := Tryz.underlying86
  a50 := Tryz.isAgg86
  z50 := Tryz.sizeOf86
  v50 := Tryz.zeroValue86
  t53 := Tryz.underlying217
  a53 := Tryz.isAgg217
  z53 := Tryz.sizeOf217
  v53 := Tryz.zeroValue217
  t55 := Tryz.underlying123
  a55 := Tryz.isAgg123
  z55 := Tryz.sizeOf123
  v55 := Tryz.zeroValue123
  t66 := Tryz.underlying482
  a66 := Tryz.isAgg482
  z66 := Tryz.sizeOf482
  v66 := Tryz.zeroValue482
  t70 := Tryz.underlying485
  a70 := Tryz.isAgg485
  z70 := Tryz.sizeOf485
  v70 := Tryz.zeroValue485
  t76 := Tryz.underlying513
  a76 := Tryz.isAgg513
  z76 := Tryz.sizeOf513
  v76 := Tryz.zeroValue513
  t77 := Tryz.underlying514
  a77 := Tryz.isAgg514
  z77 := Tryz.sizeOf514
  v77 := Tryz.zeroValue514 }
def Tryz.bsStr_ren : Go.Shelf.Ren := ⟨fun | 26 => 273 | 33 => 354 | 34 => 355 | 38 => 404 | n => n, fun | 24 => 67 | 9 => 9 | 3 => 3 | 4 => 4 | 40 => 332 | 0 => 0 | n => n, fun | n => n⟩
theorem Tryz.bsStr : Go.Proofs.Lays2.n26 Tryz.prog Tryz.bsStr_ren := {
  mixed := by kernel_rfl
  f26 := Tryz.func273.trans (congrArg some (by kernel_rfl))
  f33 := Tryz.func354.trans (congrArg some (by kernel_rfl))
  f34 := Tryz.func355.trans (congrArg some (by kernel_rfl))
  f38 := Tryz.func404.trans (congrArg some (by kernel_rfl))
  t0 := Tryz.underlying0
  a0 := Tryz.isAgg0
  z0 := Tryz.sizeOf0
  v0 := Tryz.zeroValue0
  t3 := Tryz.underlying3
  a3 := Tryz.isAgg3
  z3 := Tryz.sizeOf3
  v3 := Tryz.zeroValue3
  t4 := Tryz.underlying4
  a4 := Tryz.isAgg4
  z4 := Tryz.sizeOf4
  v4 := Tryz.zeroValue4
  t9 := Tryz.underlying9
  a9 := Tryz.isAgg9
  z9 := Tryz.sizeOf9
  v9 := Tryz.zeroValue9
  t24 := Tryz.underlying67
  a24 := Tryz.isAgg67
  z24 := Tryz.sizeOf67
  v24 := Tryz.zeroValue67
  t40 := Tryz.underlying332
  a40 := Tryz.isAgg332
  z40 := Tryz.sizeOf332
  v40 := Tryz.zeroValue332 }
end Go.Proofs
