import Derived.Test.YtbkepgmgebmceaaGreatDoorU21
import Derived.Shelf.SlGeneric
import Derived.Shelf.Small.Bits
import Derived.Shelf.Small.Wraps
import Derived.Shelf.Sort.Plain
import Derived.Shelf.Slices.CompactS
import Derived.Shelf.Slices.In.SortNone
import Derived.Shelf.SlSortCmp.WholeK
import Derived.Shelf.SlSortCmp.NoneTotal
import Derived.Shelf.Spec.SearchS
import Derived.Ground.NamesProg
import Derived.Ground.Names2Prog
import Derived.Ground.SlsfProg
import Derived.Test.YtbkepgmgebmceaaGreatDoorProg

namespace Go.Proofs
open Go.Shelf
def Tryz.lays122_ren : Go.Shelf.Ren := ⟨fun | 122 => 228 | 215 => 271 | n => n, fun | 3 => 3 | 4 => 4 | n => n, fun | n => n⟩
theorem Tryz.lays122 : Go.Proofs.Lays.n122 Tryz.prog Tryz.lays122_ren := {
  mixed := by kernel_rfl
  f122 := Tryz.func228.trans (congrArg some (by kernel_rfl))
  f215 := Tryz.func271.trans (congrArg some (by kernel_rfl))
  t3 := Tryz.underlying3
  a3 := Tryz.isAgg3
  z3 := Tryz.sizeOf3
  v3 := Tryz.zeroValue3
  t4 := Tryz.underlying4
  a4 := Tryz.isAgg4
  z4 := Tryz.sizeOf4
  v4 := Tryz.zeroValue4 }
open Go.RowKit in
theorem Tryz.cmp_Compare_int (x y : Int) (w : World) :
    Calls Tryz.prog 228 #[.int .i64 x, .int .i64 y] w fun e w' => e = .returned (.int .i64 (Lib.compareInt x y)) ∧ w' = w := Any.cmp_Compare_int Tryz.lays122 x y w
def Tryz.lays190_ren : Go.Shelf.Ren := ⟨fun | 190 => 265 | 125 => 215 | 258 => 318 | 128 => 292 | 129 => 293 | 302 => 364 | 303 => 365 | 304 => 366 | 305 => 367 | 306 => 368 | 307 => 369 | 308 => 319 | 309 => 370 | 310 => 371 | 333 => 393 | 329 => 336 | 330 => 337 | 334 => 394 | 335 => 395 | 336 => 372 | 344 => 407 | n => n, fun | 31 => 67 | 9 => 9 | 3 => 3 | 46 => 307 | 0 => 0 | 51 => 216 | 53 => 120 | 4 => 4 | 183 => 393 | 182 => 392 | 131 => 75 | 5 => 5 | 218 => 436 | 222 => 439 | 228 => 466 | 229 => 467 | n => n, fun | n => n⟩
theorem Tryz.lays190 : Go.Proofs.Lays.n190 Tryz.prog Tryz.lays190_ren := {
  mixed := by kernel_rfl
  f125 := Tryz.func215.trans (congrArg some (by kernel_rfl))
  f128 := Tryz.func292.trans (congrArg some (by kernel_rfl))
  f129 := Tryz.func293.trans (congrArg some (by kernel_rfl))
  f190 := Tryz.func265.trans (congrArg some (by kernel_rfl))
  f258 := Tryz.func318.trans (congrArg some (by kernel_rfl))
  f302 := Tryz.func364.trans (congrArg some (by kernel_rfl))
  f303 := Tryz.func365.trans (congrArg some (by kernel_rfl))
  f304 := Tryz.func366.trans (congrArg some (by kernel_rfl))
  f305 := Tryz.func367.trans (congrArg some (by kernel_rfl))
  f306 := Tryz.func368.trans (congrArg some (by kernel_rfl))
  f307 := Tryz.func369.trans (congrArg some (by kernel_rfl))
  f308 := Tryz.func319.trans (congrArg some (by kernel_rfl))
  f309 := Tryz.func370.trans (congrArg some (by kernel_rfl))
  f310 := Tryz.func371.trans (congrArg some (by kernel_rfl))
  f329 := Tryz.func336.trans (congrArg some (by kernel_rfl))
  f330 := Tryz.func337.trans (congrArg some (by kernel_rfl))
  f333 := Tryz.func393.trans (congrArg some (by kernel_rfl))
  f334 := Tryz.func394.trans (congrArg some (by kernel_rfl))
  f335 := Tryz.func395.trans (congrArg some (by kernel_rfl))
  f336 := Tryz.func372.trans (congrArg some (by kernel_rfl))
  f344 := Tryz.func407.trans (congrArg some (by kernel_rfl))
  t0 := Tryz.underlying0
  a0 := Tryz.isAgg0
  z0 := Tryz.sizeOf0
  v0 := Tryz.zeroValue0
  t3 := Tryz.underlying3
  a3 := Tryz.isAgg3
  z3 := Tryz.sizeOf3
  v3 := Tryz.zeroValue3
  t4 := Tryz.underlying4
  a4 := Tryz.isAgg4
  z4 := Tryz.sizeOf4
  v4 := Tryz.zeroValue4
  t5 := Tryz.underlying5
  a5 := Tryz.isAgg5
  z5 := Tryz.sizeOf5
  v5 := Tryz.zeroValue5
  t9 := Tryz.underlying9
  a9 := Tryz.isAgg9
  z9 := Tryz.sizeOf9
  v9 := Tryz.zeroValue9
  t31 := Tryz.underlying67
  a31 := Tryz.isAgg67
  z31 := Tryz.sizeOf67
  v31 := Tryz.zeroValue67
  t46 := Tryz.underlying307
  a46 := Tryz.isAgg307
  z46 := Tryz.sizeOf307
  v46 := Tryz.zeroValue307
  t51 := Tryz.underlying216
  a51 := Tryz.isAgg216
  z51 := Tryz.sizeOf216
  v51 := Tryz.zeroValue216
  t53 := Tryz.underlying120
  a53 := Tryz.isAgg120
  z53 := Tryz.sizeOf120
  v53 := Tryz.zeroValue120
  t131 := Tryz.underlying75
  a131 := Tryz.isAgg75
  z131 := Tryz.sizeOf75
  v131 := Tryz.zeroValue75
  t182 := Tryz.underlying392
  a182 := Tryz.isAgg392
  z182 := Tryz.sizeOf392
  v182 := Tryz.zeroValue392
  t183 := Tryz.underlying393
  a183 := Tryz.isAgg393
  z183 := Tryz.sizeOf393
  v183 := Tryz.zeroValue393
  t218 := Tryz.underlying436
  a218 := Tryz.isAgg436
  z218 := Tryz.sizeOf436
  v218 := Tryz.zeroValue436
  t222 := Tryz.underlying439
  a222 := Tryz.isAgg439
  z222 := Tryz.sizeOf439
  v222 := Tryz.zeroValue439
  t228 := Tryz.underlying466
  a228 := Tryz.isAgg466
  z228 := Tryz.sizeOf466
  v228 := Tryz.zeroValue466
  t229 := Tryz.underlying467
  a229 := Tryz.isAgg467
  z229 := Tryz.sizeOf467
  v229 := Tryz.zeroValue467 }
open Go.Sort Go.RowKit in
theorem Tryz.slices_Sort_string (blk off cap : Nat) (ss : List (List UInt8)) (w : World) (hH : Holds encStr w blk off ss.toArray) (hblk : blk < w.heap.size) (hsz : ss.length < 4611686018427387904) :
    Calls Tryz.prog 265 #[.slice (some ⟨blk, off, none⟩) ss.length cap] w fun e w' =>
      e = .returned (.tuple #[]) ∧ ∃ n os, w' = grow (putRow encStr (Sort.ahead w n) blk off (ss.mergeSort fun x y => decide (x ≤ y)).toArray) os := Any.slices_Sort_string Tryz.lays190 blk off cap ss w hH hblk hsz
def Tryz.lays194_ren : Go.Shelf.Ren := ⟨fun | 194 => 266 | n => n, fun | 31 => 67 | 9 => 9 | 3 => 3 | 4 => 4 | 0 => 0 | n => n, fun | n => n⟩
theorem Tryz.lays194 : Go.Proofs.Lays.n194 Tryz.prog Tryz.lays194_ren := {
  mixed := by kernel_rfl
  f194 := Tryz.func266.trans (congrArg some (by kernel_rfl))
  t0 := Tryz.underlying0
  a0 := Tryz.isAgg0
  z0 := Tryz.sizeOf0
  v0 := Tryz.zeroValue0
  t3 := Tryz.underlying3
  a3 := Tryz.isAgg3
  z3 := Tryz.sizeOf3
  v3 := Tryz.zeroValue3
  t4 := Tryz.underlying4
  a4 := Tryz.isAgg4
  z4 := Tryz.sizeOf4
  v4 := Tryz.zeroValue4
  t9 := Tryz.underlying9
  a9 := Tryz.isAgg9
  z9 := Tryz.sizeOf9
  v9 := Tryz.zeroValue9
  t31 := Tryz.underlying67
  a31 := Tryz.isAgg67
  z31 := Tryz.sizeOf67
  v31 := Tryz.zeroValue67 }
open Go.RowKit Go.Lib Go.Sort in
theorem Tryz.slices_Compact_string (blk off cap : Nat) (zs : List (List UInt8)) (w : World) (hH : Holds encStr w blk off zs.toArray) (hsz : zs.length ≤ 9223372036854775807) (hcap : zs.length ≤ cap) :
    Calls Tryz.prog 266 #[.slice (some ⟨blk, off, none⟩) zs.length cap] w fun e w' => e = .returned (.slice (some ⟨blk, off, none⟩) (Lib.compact zs).length cap) ∧ ∃ q, w' = putRow encStr (Sort.ahead w q) blk off (Lib.compact zs ++ List.replicate (zs.length - (Lib.compact zs).length) []).toArray := Any.slices_Compact_string Tryz.lays194 blk off cap zs w hH hsz hcap
open Go.RowKit Go.Lib Go.Sort in
theorem Tryz.slices_Compact_string_empty (a : Option Addr) (cap : Nat) (w : World) :
    Calls Tryz.prog 266 #[.slice a 0 cap] w fun e w' => e = .returned (.slice a 0 cap) ∧ w' = w := Any.slices_Compact_string_empty Tryz.lays194 a cap w
open Go.RowKit Go.Sort in
theorem Tryz.slices_Sort_string_none (p : Option Addr) (cap : Nat) (w : World) :
    Calls Tryz.prog 265 #[.slice p 0 cap] w fun e w' => e = .returned (.tuple #[]) ∧ w' = w := Any.slices_Sort_string_none Tryz.lays190 p cap w
def Tryz.sortDoc_ren : Go.Shelf.Ren := ⟨fun | 6 => 236 | 15 => 215 | 14 => 304 | 28 => 292 | 29 => 293 | 20 => 349 | 21 => 350 | 22 => 351 | 23 => 352 | 24 => 353 | 25 => 354 | 26 => 355 | 27 => 356 | 46 => 384 | 47 => 336 | 48 => 337 | 49 => 385 | 50 => 386 | 57 => 402 | n => n, fun | 22 => 66 | 24 => 246 | 25 => 338 | 3 => 3 | 39 => 307 | 0 => 0 | 53 => 216 | 55 => 120 | 4 => 4 | 46 => 393 | 45 => 392 | 50 => 75 | 5 => 5 | 9 => 9 | 66 => 436 | 70 => 439 | 76 => 466 | 77 => 467 | n => n, fun | n => n⟩
theorem Tryz.sortDoc : Go.Proofs.SlLaysF0.n6 Tryz.prog Tryz.sortDoc_ren := {
  mixed := by kernel_rfl
  f6 := ⟨Tryz.f236.name, by decide, Tryz.func236.trans (congrArg some (by kernel_rfl))⟩
  f14 := ⟨Tryz.f304.name, by decide, Tryz.func304.trans (congrArg some (by kernel_rfl))⟩
  f15 := Tryz.func215.trans (congrArg some (by kernel_rfl))
  f20 := ⟨Tryz.f349.name, by decide, Tryz.func349.trans (congrArg some (by kernel_rfl))⟩
  f21 := ⟨Tryz.f350.name, by decide, Tryz.func350.trans (congrArg some (by kernel_rfl))⟩
  f22 := ⟨Tryz.f351.name, by decide, Tryz.func351.trans (congrArg some (by kernel_rfl))⟩
  f23 := ⟨Tryz.f352.name, by decide, Tryz.func352.trans (congrArg some (by kernel_rfl))⟩
  f24 := ⟨Tryz.f353.name, by decide, Tryz.func353.trans (congrArg some (by kernel_rfl))⟩
  f25 := ⟨Tryz.f354.name, by decide, Tryz.func354.trans (congrArg some (by kernel_rfl))⟩
  f26 := ⟨Tryz.f355.name, by decide, Tryz.func355.trans (congrArg some (by kernel_rfl))⟩
  f27 := ⟨Tryz.f356.name, by decide, Tryz.func356.trans (congrArg some (by kernel_rfl))⟩
  f28 := Tryz.func292.trans (congrArg some (by kernel_rfl))
  f29 := Tryz.func293.trans (congrArg some (by kernel_rfl))
  f46 := ⟨Tryz.f384.name, by decide, Tryz.func384.trans (congrArg some (by kernel_rfl))⟩
  f47 := Tryz.func336.trans (congrArg some (by kernel_rfl))
  f48 := Tryz.func337.trans (congrArg some (by kernel_rfl))
  f49 := ⟨Tryz.f385.name, by decide, Tryz.func385.trans (congrArg some (by kernel_rfl))⟩
  f50 := ⟨Tryz.f386.name, by decide, Tryz.func386.trans (congrArg some (by kernel_rfl))⟩
  f57 := ⟨Tryz.f402.name, by decide, Tryz.func402.trans (congrArg some (by kernel_rfl))⟩
  t0 := Tryz.underlying0
  a0 := Tryz.isAgg0
  z0 := Tryz.sizeOf0
  v0 := Tryz.zeroValue0
  t3 := Tryz.underlying3
  a3 := Tryz.isAgg3
  z3 := Tryz.sizeOf3
  v3 := Tryz.zeroValue3
  t4 := Tryz.underlying4
  a4 := Tryz.isAgg4
  z4 := Tryz.sizeOf4
  v4 := Tryz.zeroValue4
  t5 := Tryz.underlying5
  a5 := Tryz.isAgg5
  z5 := Tryz.sizeOf5
  v5 := Tryz.zeroValue5
  t9 := Tryz.underlying9
  a9 := Tryz.isAgg9
  z9 := Tryz.sizeOf9
  v9 := Tryz.zeroValue9
  t22 := Tryz.underlying66
  a22 := Tryz.isAgg66
  z22 := Tryz.sizeOf66
  v22 := Tryz.zeroValue66
  t25 := Tryz.underlying338
  a25 := Tryz.isAgg338
  z25 := Tryz.sizeOf338
  v25 := Tryz.zeroValue338
  t39 := Tryz.underlying307
  a39 := Tryz.isAgg307
  z39 := Tryz.sizeOf307
  v39 := Tryz.zeroValue307
  t45 := Tryz.underlying392
  a45 := Tryz.isAgg392
  z45 := Tryz.sizeOf392
  v45 := Tryz.zeroValue392
  t46 := Tryz.underlying393
  a46 := Tryz.isAgg393
  z46 := Tryz.sizeOf393
  v46 := Tryz.zeroValue393
  t50 := Tryz.underlying75
  a50 := Tryz.isAgg75
  z50 := Tryz.sizeOf75
  v50 := Tryz.zeroValue75
  t53 := Tryz.underlying216
  a53 := Tryz.isAgg216
  z53 := Tryz.sizeOf216
  v53 := Tryz.zeroValue216
  t55 := Tryz.underlying120
  a55 := Tryz.isAgg120
  z55 := Tryz.sizeOf120
  v55 := Tryz.zeroValue120
  t66 := Tryz.underlying436
  a66 := Tryz.isAgg436
  z66 := Tryz.sizeOf436
  v66 := Tryz.zeroValue436
  t70 := Tryz.underlying439
  a70 := Tryz.isAgg439
  z70 := Tryz.sizeOf439
  v70 := Tryz.zeroValue439
  t76 := Tryz.underlying466
  a76 := Tryz.isAgg466
  z76 := Tryz.sizeOf466
  v76 := Tryz.zeroValue466
  t77 := Tryz.underlying467
  a77 := Tryz.isAgg467
  z77 := Tryz.sizeOf467
  v77 := Tryz.zeroValue467 }
def Tryz.bsStr_ren : Go.Shelf.Ren := ⟨fun | 26 => 267 | 33 => 319 | 34 => 320 | 38 => 372 | n => n, fun | 24 => 67 | 9 => 9 | 3 => 3 | 4 => 4 | 40 => 307 | 0 => 0 | n => n, fun | n => n⟩
theorem Tryz.bsStr : Go.Proofs.Lays2.n26 Tryz.prog Tryz.bsStr_ren := {
  mixed := by kernel_rfl
  f26 := Tryz.func267.trans (congrArg some (by kernel_rfl))
  f33 := Tryz.func319.trans (congrArg some (by kernel_rfl))
  f34 := Tryz.func320.trans (congrArg some (by kernel_rfl))
  f38 := Tryz.func372.trans (congrArg some (by kernel_rfl))
  t0 := Tryz.underlying0
  a0 := Tryz.isAgg0
  z0 := Tryz.sizeOf0
  v0 := Tryz.zeroValue0
  t3 := Tryz.underlying3
  a3 := Tryz.isAgg3
  z3 := Tryz.sizeOf3
  v3 := Tryz.zeroValue3
  t4 := Tryz.underlying4
  a4 := Tryz.isAgg4
  z4 := Tryz.sizeOf4
  v4 := Tryz.zeroValue4
  t9 := Tryz.underlying9
  a9 := Tryz.isAgg9
  z9 := Tryz.sizeOf9
  v9 := Tryz.zeroValue9
  t24 := Tryz.underlying67
  a24 := Tryz.isAgg67
  z24 := Tryz.sizeOf67
  v24 := Tryz.zeroValue67
  t40 := Tryz.underlying307
  a40 := Tryz.isAgg307
  z40 := Tryz.sizeOf307
  v40 := Tryz.zeroValue307 }
end Go.Proofs

namespace Go.Proofs.YtbkepgmgebmceaaGreatDoor.Pak
open Go.RowKit Go.Proofs.YtbkepgmgebmceaaGreatDoor Go.Proofs.YtbkepgmgebmceaaGreatDoor.Spl SiftM Go.Sort
set_option linter.unusedVariables false

theorem put_heap {α : Type} [Inhabited α] (enc : α → Value) (w : World) (g m : Nat) (d : Array α) (os : Array Obj) {cur : Array Value} {e : TypeId} {fr : Nat × Nat} (hg : w.heap[g]? = some (.cells cur e fr)) :
    (Sort.grow (Sort.putRow enc (Sort.ahead w m) g 0 d) os).heap[g]? = some (.cells (Sort.putCells enc 0 d cur) e fr) := by
  have hlt := heap_lt hg
  rw [Sort.heap_grow_old _ _ (by simpa using hlt)]
  simp only [Sort.putRow, Sort.mapBlock, Sort.ahead, Array.getElem?_modify, if_true, hg, Option.map_some, Sort.onCells]
theorem put_kp {α : Type} [Inhabited α] (enc : α → Value) (w : World) (g m : Nat) (d : Array α) (os : Array Obj) : Kp [g] w (Sort.grow (Sort.putRow enc (Sort.ahead w m) g 0 d) os) := by
  refine ⟨rfl, rfl, rfl, by simp [Sort.ahead], fun k hk hn => ?_⟩
  rw [Sort.heap_grow_old _ _ (by simpa [Sort.ahead] using hk)]
  simp only [Sort.putRow, Sort.mapBlock, Sort.ahead, Array.getElem?_modify]
  rw [if_neg (by simp at hn; omega)]
theorem putCells_take {α : Type} [Inhabited α] (enc : α → Value) (d : Array α) (cur : Array Value) (h : d.size ≤ cur.size) : (Sort.putCells enc 0 d cur).toList.take d.size = d.toList.map enc := by
  apply List.ext_getElem?
  intro i
  rw [List.getElem?_take]
  by_cases hi : i < d.size
  · rw [if_pos hi]
    have hc : i < cur.size := by omega
    rw [Array.getElem?_toList]
    simp only [Sort.putCells, Array.getElem?_mapIdx, Array.getElem?_eq_getElem hc, Option.map_some, Nat.zero_le, Nat.zero_add, hi, and_self, if_true, Nat.sub_zero]
    simp [hi]
  · rw [if_neg hi]
    symm
    exact List.getElem?_eq_none (by simp; omega)
/-- A row behind the library's sorts. -/
theorem put_owns {α : Type} [Inhabited α] (enc : α → Value) {w : World} {base g n cap size : Nat} {e : TypeId} {xs : List Value} (h : w.ownsRow base e size (.slice (some ⟨g, 0, none⟩) n cap) n xs) (d : Array α) (hd : d.size = n * size) (m : Nat) (os : Array Obj) :
    (Sort.grow (Sort.putRow enc (Sort.ahead w m) g 0 d) os).ownsRow base e size (.slice (some ⟨g, 0, none⟩) n cap) n (d.toList.map enc) := by
  rcases h.2 with ⟨e1, _⟩ | ⟨g', cap', cur, e1, hb, hg, hn, hcm, hcs, ht⟩
  · simp at e1
  · simp at e1
    obtain ⟨rfl, rfl⟩ := e1
    refine ⟨by simp [hd], .inr ⟨g, cap, _, rfl, hb, put_heap enc w g m d os hg, hn, hcm, by simp [Sort.putCells, hcs], ?_⟩⟩
    rw [← hd]
    exact putCells_take enc d cur (by rw [hd, hcs]; exact Nat.mul_le_mul_right _ hn)
theorem owns_shrink {w : World} {base g n n' cap size : Nat} {e : TypeId} {xs : List Value} (h : w.ownsRow base e size (.slice (some ⟨g, 0, none⟩) n cap) n xs) (hn : n' ≤ n) : w.ownsRow base e size (.slice (some ⟨g, 0, none⟩) n' cap) n' (xs.take (n' * size)) := by
  rcases h.2 with ⟨e1, _⟩ | ⟨g', cap', cur, e1, hb, hg, hn', hcm, hcs, ht⟩
  · simp at e1
  · simp at e1
    obtain ⟨rfl, rfl⟩ := e1
    have hm : n' * size ≤ n * size := Nat.mul_le_mul_right _ hn
    refine ⟨by rw [List.length_take, h.1]; omega, .inr ⟨g, cap, cur, rfl, hb, hg, by omega, hcm, hcs, ?_⟩⟩
    rw [← ht, List.take_take, Nat.min_eq_left hm]

abbrev Dc := Int × ByteArray
def encDoc (x : Dc) : List Value := [.int .i64 x.1, .string x.2]
def docV (D : List Dc) : List Value := D.flatMap encDoc
theorem docV_len (D : List Dc) : (docV D).length = D.length * 2 := by
  induction D with
  | nil => rfl
  | cons x r ih => simp [docV, encDoc] at ih ⊢; omega
theorem docV_get : ∀ (D : List Dc) (i : Nat) (h : i < D.length), (docV D)[i * 2]? = some (.int .i64 D[i].1) ∧ (docV D)[i * 2 + 1]? = some (.string D[i].2)
  | x :: r, 0, h => by simp [docV, encDoc]
  | x :: r, i + 1, h => by
    have ih := docV_get r i (by simpa using h)
    have e : docV (x :: r) = .int .i64 x.1 :: .string x.2 :: docV r := by simp [docV, encDoc]
    rw [e, show (i + 1) * 2 = i * 2 + 2 by omega, show i * 2 + 2 + 1 = i * 2 + 1 + 2 by omega]
    simpa using ih
theorem flat_docV (d : Array Dc) : (Sort.flatK encDoc 2 d).toList = docV d.toList := by
  apply List.ext_getElem?
  intro t
  by_cases ht : t < d.size * 2
  · have h1 := Sort.get_flatK encDoc 2 d t ht
    have hs : t < (Sort.flatK encDoc 2 d).size := by rw [Sort.size_flatK]; exact ht
    rw [Array.getElem?_toList, Array.getElem?_eq_getElem hs]
    rw [getElem!_pos _ t hs] at h1
    rw [h1]
    have hq : t / 2 < d.toList.length := by simp; omega
    have hg := docV_get d.toList (t / 2) hq
    have hd : d[t / 2]! = d.toList[t / 2] := by rw [getElem!_pos d (t / 2) (by simpa using hq)]; simp
    have : t % 2 = 0 ∨ t % 2 = 1 := by omega
    rcases this with e | e
    · have h3 := hg.1
      rw [show t / 2 * 2 = t by omega] at h3
      rw [h3, e, hd]
      rfl
    · have e2 : t = t / 2 * 2 + 1 := by omega
      have h3 := hg.2
      rw [← e2] at h3
      rw [h3, e, hd]
      rfl
  · rw [List.getElem?_eq_none (by simp; omega), List.getElem?_eq_none (by rw [docV_len]; simp; omega)]
end Go.Proofs.YtbkepgmgebmceaaGreatDoor.Pak

namespace Go.Proofs.YtbkepgmgebmceaaGreatDoor.Pak
open Go.RowKit Go.Proofs.YtbkepgmgebmceaaGreatDoor Go.Proofs.YtbkepgmgebmceaaGreatDoor.Spl SiftM Go.Sort
set_option linter.unusedVariables false

theorem info43 : (Tryz.prog.info? 246).map (fun i => (i.zero, i.size, i.bytes)) = some (some (.agg #[.int .i64 0, .string ⟨#[]⟩]), 2, 24) := by kernel_rfl

set_option maxHeartbeats 800000 in
set_option maxRecDepth 100000 in
theorem clone_any (B : Nat) (v : Value) (D : List Dc) (w : World) (h : w.ownsRow B 246 2 v D.length (docV D)) (hn : D.length ≤ 2000000) :
    Calls Tryz.prog 235 #[v] w fun e w' => ∃ v', e = .returned v' ∧ w'.ownsRow w.heap.size 246 2 v' D.length (docV D) ∧ Kp [] w w' := by
  obtain ⟨i0, hi, hz0, hz1, hz2⟩ := info_parts info43
  have q32 : ∀ (w : World) (a : Option Addr) (n c n' c' : Nat), (binOp .eql 66 (.slice a n c) (.slice none n' c')).run Tryz.prog w = .ok (.bool a.isNone) w := fun w a n c n' c' => Lib.run_eql_slice_nil w _ _ a n c n' c' Tryz.underlying66
  rcases h.2 with ⟨rfl, h0⟩ | ⟨g, cap, cur, rfl, hb, hg, rest⟩
  · have hD : D = [] := List.eq_nil_of_length_eq_zero h0
    subst hD
    go_enter Tryz.func235, Tryz.ntmps235
    go_wp2_with fail
    go_ret
    exact ⟨_, rfl, World.ownsRow_nil _ _ _ _, Kp.refl _ _⟩
  · have HH := hide h
    have hob := World.ownsRow_made (base := w.heap.size) (e := 246) (size := 2) w #[] 0 (Nat.le_refl _) (by unfold maxLen; omega) (by simp)
    have hoc := (h.alloc (.cells #[] 246)).cells (g := g) rfl
    have h1c : ∀ u ∈ docV D, u.oneCell' = true := by
      intro u hu
      simp only [docV, List.mem_flatMap] at hu
      obtain ⟨x, _, hx⟩ := hu
      simp [encDoc] at hx
      rcases hx with rfl | rfl <;> rfl
    have HOB := hide hob
    have HOC := hide hoc
    have H1C := hide h1c
    have HL := hide (docV_len D)
    clear h hob hoc h1c hg rest
    go_enter Tryz.func235, Tryz.ntmps235
    go_wp2_with (first
      | (at_builtin; refine wpList_append_own_at _ rfl _ _ 66 rfl w.heap.size 246 i0 (.agg #[.int .i64 0, .string ⟨#[]⟩]) 2 24 Tryz.underlying66 hi hz0 hz1 hz2 rfl (by decide) _ _ _ rfl HOB.out ⟨g, 0, none⟩ D.length cap (docV D) rfl HL.out HOC.out H1C.out ?c1 ?c2 ?c3 ?_)
      | fail)
    case c1 => unfold maxLen; omega
    case c2 => omega
    case c3 => simp
    intro v2 w2 hown2 hgrow2 _ _
    have ho2 : w2.ownsRow w.heap.size 246 2 v2 D.length (docV D) := by simpa using hown2
    have HO2 := hide ho2
    obtain ⟨a2, cap2, rfl, _⟩ := owns_forms HO2.out
    clear hown2 ho2
    go_wp2_with fail
    go_ret
    refine ⟨_, rfl, HO2.out, ((Kp.refl [] w).alloc _).grown hgrow2 (by intro k hk; simp [Value.ownBlock] at hk; right; omega)⟩

set_option maxHeartbeats 2000000 in
theorem cmp25 (x y : Dc) (W : World) : Calls Tryz.prog 237 #[.agg #[.int .i64 x.1, .string x.2], .agg #[.int .i64 y.1, .string y.2]] W fun e w' => e = .returned (.int .i64 (Lib.compareInt x.1 y.1)) ∧ ∃ q os', w' = Sort.grow (W.drewN q) os' := by
  have hcon := fun W' => Tryz.cmp_Compare_int x.1 y.1 W'
  generalize Lib.compareInt x.1 y.1 = r at hcon ⊢
  go_enter Tryz.func237, Tryz.ntmps237
  go_wp2_with (go_at_call 228; refine (hcon _).mono ?_; rintro e w' ⟨rfl, rfl⟩)
  go_ret
  exact ⟨rfl, 0, _, by rw [Sort.alloc_eq_grow, Sort.alloc_eq_grow, Sort.grow_grow]; rfl⟩

theorem cmpLays25 (blk off size : Nat) (w : World) : CmpLays Tryz.prog 237 #[] encDoc 2 (fun x y : Dc => Lib.compareInt x.1 y.1) blk off size w :=
  fun _ _ _ _ x y => cmp25 x y _
theorem ltDoc (x y : Dc) : ltOf (fun x y : Dc => Lib.compareInt x.1 y.1) x y = decide (x.1 < y.1) := by
  unfold ltOf Lib.compareInt
  by_cases h1 : x.1 < y.1
  · simp [h1]
  · by_cases h2 : y.1 < x.1 <;> simp [h1, h2]
theorem swoDoc : SWO (ltOf fun x y : Dc => Lib.compareInt x.1 y.1) where
  irrefl x := by rw [ltDoc]; simp
  trans x y z h1 h2 := by rw [ltDoc] at *; simp at *; omega
  ntrans x y z h1 h2 := by rw [ltDoc] at *; simp at *; omega

/-- Docs that are those of D, in the order of their ids. -/
def SortOf (D D' : List Dc) : Prop := D'.Perm D ∧ D'.Pairwise fun x y => x.1 ≤ y.1

theorem holds_docs {w : World} {B g n cap : Nat} {D : List Dc} (h : w.ownsRow B 246 2 (.slice (some ⟨g, 0, none⟩) n cap) n (docV D)) (hl : D.length = n) : HoldsK encDoc 2 w g 0 D.toArray := by
  intro j hj
  rw [Sort.size_flatK] at hj
  rcases h.2 with ⟨e1, _⟩ | ⟨g', cap', cur, e1, hb, hg, hn', hcm, hcs, ht⟩
  · simp at e1
  · simp at e1
    obtain ⟨rfl, rfl⟩ := e1
    have hf := flat_docV D.toArray
    have hs : j < (Sort.flatK encDoc 2 D.toArray).size := by rw [Sort.size_flatK]; exact hj
    constructor
    · have hget : (docV D)[j]? = some ((Sort.flatK encDoc 2 D.toArray)[j]!) := by
        rw [← hf, Array.getElem?_toList, getElem!_pos _ j hs, Array.getElem?_eq_getElem hs]
      have hc := h.cells (g := g) rfl j _ hget
      have e : (⟨g, 0, none⟩ : Addr).add j = ⟨g, j, none⟩ := by unfold Addr.add; split <;> simp_all
      rw [e] at hc
      simpa using hc
    · simp [World.frozen?, hg]

set_option maxHeartbeats 2000000 in
set_option maxRecDepth 100000 in
theorem byId_any (B : Nat) (v : Value) (D : List Dc) (w : World) (h : w.ownsRow B 246 2 v D.length (docV D)) (hn : D.length ≤ 2000000) :
    Calls Tryz.prog 148 #[v] w fun e w' => ∃ v' D', e = .returned v' ∧ w'.ownsRow w.heap.size 246 2 v' D.length (docV D') ∧ SortOf D D' ∧ Kp [] w w' := by
  have hC := hide (clone_any B v D w h hn)
  obtain ⟨a0, c0, rfl, _⟩ := owns_forms h
  clear h
  go_enter Tryz.func148, Tryz.ntmps148
  go_wp2_with fail
  refine hC.out.mono ?_
  rintro e w1 ⟨v1, rfl, ho1, hk1⟩
  rcases ho1.2 with ⟨rfl, h0⟩ | ⟨g, cap, cur, rfl, hb, hg, rest⟩
  · have hD : D = [] := List.eq_nil_of_length_eq_zero h0
    subst hD
    have hS := AnyF.slices_SortFunc_none { Tryz.sortDoc with } none 0 (.func (.func 237) #[] #[]) w1
    change Calls Tryz.prog 236 _ _ _ at hS
    have HS := hide hS
    clear hS
    go_wp2_with fail
    refine HS.out.mono ?_
    rintro e w2 ⟨rfl, rfl⟩
    go_wp2_with fail
    go_ret
    exact ⟨_, [], rfl, World.ownsRow_nil _ _ _ _, ⟨List.Perm.refl _, List.Pairwise.nil⟩, hk1⟩
  · have eg : ∀ args w, (callFunc 237 args).run Tryz.prog w = .ok (.enter 237 args) w := enters_of Tryz.func237 (by kernel_rfl) rfl
    have hH := holds_docs ho1 rfl
    have hcon := AnyQ.slices_SortFunc Tryz.sortDoc 2 Tryz.isAgg246 Tryz.sizeOf246 encDoc (fun _ => rfl) (fun x v hv => by simp [encDoc] at hv; rcases hv with rfl | rfl <;> rfl) (fun x y : Dc => Lib.compareInt x.1 y.1) swoDoc 237 #[] g 0 cap D.toArray w1 eg (cmpLays25 g 0 D.toArray.size w1) hH (heap_lt hg) (by simp; omega)
    change Calls Tryz.prog 236 _ _ _ at hcon
    simp only [List.size_toArray] at hcon
    have HC := hide hcon
    have HO := hide ho1
    clear hcon hH ho1 hg rest eg
    go_wp2_with fail
    refine HC.out.mono ?_
    rintro e w2 ⟨rfl, d', n, os, hp, hs, rfl⟩
    go_wp2_with fail
    go_ret
    have hsz : d'.size = D.length := by have := hp.1; simpa using this
    refine ⟨_, d'.toList, rfl, ?_, ⟨?_, ?_⟩, ?_⟩
    · have := put_owns id HO.out (Sort.flatK encDoc 2 d') (by rw [Sort.size_flatK, hsz]) n os
      rw [List.map_id, flat_docV] at this
      exact this
    · have := hp.2.2
      have e1 : d'.extract 0 D.length = d' := by rw [← hsz]; simp
      have e2 : D.toArray.extract 0 D.length = D.toArray := by
        have : D.length = D.toArray.size := by simp
        rw [this]; simp
      rw [e1, e2] at this
      simpa using this
    · rw [List.pairwise_iff_getElem]
      intro i j hi hj hij
      have h1 := hs i j (Nat.zero_le _) hij (by simp at hj; omega)
      rw [ltDoc] at h1
      simp at hi hj
      rw [getElem!_pos d' i hi, getElem!_pos d' j hj] at h1
      simp at h1
      simpa using h1
    · exact hk1.trans (put_kp id w1 g n (Sort.flatK encDoc 2 d') os) (by simpa using hb)
end Go.Proofs.YtbkepgmgebmceaaGreatDoor.Pak
