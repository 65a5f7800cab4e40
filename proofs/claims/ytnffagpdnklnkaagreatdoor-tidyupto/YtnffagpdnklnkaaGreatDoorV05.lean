import Derived.Test.YtnffagpdnklnkaaGreatDoorV04
import Derived.Shelf.SlGeneric
import Derived.Shelf.Small.Bits
import Derived.Shelf.Small.Wraps
import Derived.Shelf.Sort.Plain
import Derived.Shelf.Slices.CompactS
import Derived.Shelf.Slices.In.SortNone
import Derived.Shelf.SlSortCmp.WholeK
import Derived.Shelf.SlSortCmp.NoneTotal
import Derived.Shelf.Spec.SearchS
import Derived.Ground.NamesProg
import Derived.Ground.Names2Prog
import Derived.Ground.SlsfProg
import Derived.Test.YtnffagpdnklnkaaGreatDoorProg
import Derived.Deep.AppendLies
set_option linter.unusedVariables false
set_option linter.unusedSimpArgs false
set_option maxRecDepth 8000
namespace Go.Proofs
open Go.Shelf
def Tryz.lays122_ren : Go.Shelf.Ren := ⟨fun | 122 => 162 | 215 => 194 | n => n, fun | 3 => 3 | 4 => 4 | n => n, fun | n => n⟩
theorem Tryz.lays122 : Go.Proofs.Lays.n122 Tryz.prog Tryz.lays122_ren := {
  mixed := by kernel_rfl
  f122 := Tryz.func162.trans (congrArg some (by kernel_rfl))
  f215 := Tryz.func194.trans (congrArg some (by kernel_rfl))
  t3 := Tryz.underlying3
  a3 := Tryz.isAgg3
  z3 := Tryz.sizeOf3
  v3 := Tryz.zeroValue3
  t4 := Tryz.underlying4
  a4 := Tryz.isAgg4
  z4 := Tryz.sizeOf4
  v4 := Tryz.zeroValue4 }
open Go.RowKit in
theorem Tryz.cmp_Compare_int (x y : Int) (w : World) :
    Calls Tryz.prog 162 #[.int .i64 x, .int .i64 y] w fun e w' => e = .returned (.int .i64 (Lib.compareInt x y)) ∧ w' = w := Any.cmp_Compare_int Tryz.lays122 x y w
def Tryz.lays190_ren : Go.Shelf.Ren := ⟨fun | 190 => 91 | 125 => 135 | 258 => 134 | 128 => 178 | 129 => 137 | 302 => 170 | 303 => 171 | 304 => 172 | 305 => 173 | 306 => 174 | 307 => 175 | 308 => 131 | 309 => 176 | 310 => 177 | 333 => 199 | 329 => 200 | 330 => 201 | 334 => 202 | 335 => 203 | 336 => 169 | 344 => 224 | n => n, fun | 31 => 37 | 9 => 9 | 3 => 3 | 46 => 206 | 0 => 0 | 51 => 214 | 53 => 78 | 4 => 4 | 183 => 245 | 182 => 244 | 131 => 151 | 5 => 5 | 218 => 271 | 222 => 275 | 228 => 292 | 229 => 293 | n => n, fun | n => n⟩
theorem Tryz.lays190 : Go.Proofs.Lays.n190 Tryz.prog Tryz.lays190_ren := {
  mixed := by kernel_rfl
  f125 := Tryz.func135.trans (congrArg some (by kernel_rfl))
  f128 := Tryz.func178.trans (congrArg some (by kernel_rfl))
  f129 := Tryz.func137.trans (congrArg some (by kernel_rfl))
  f190 := Tryz.func91.trans (congrArg some (by kernel_rfl))
  f258 := Tryz.func134.trans (congrArg some (by kernel_rfl))
  f302 := Tryz.func170.trans (congrArg some (by kernel_rfl))
  f303 := Tryz.func171.trans (congrArg some (by kernel_rfl))
  f304 := Tryz.func172.trans (congrArg some (by kernel_rfl))
  f305 := Tryz.func173.trans (congrArg some (by kernel_rfl))
  f306 := Tryz.func174.trans (congrArg some (by kernel_rfl))
  f307 := Tryz.func175.trans (congrArg some (by kernel_rfl))
  f308 := Tryz.func131.trans (congrArg some (by kernel_rfl))
  f309 := Tryz.func176.trans (congrArg some (by kernel_rfl))
  f310 := Tryz.func177.trans (congrArg some (by kernel_rfl))
  f329 := Tryz.func200.trans (congrArg some (by kernel_rfl))
  f330 := Tryz.func201.trans (congrArg some (by kernel_rfl))
  f333 := Tryz.func199.trans (congrArg some (by kernel_rfl))
  f334 := Tryz.func202.trans (congrArg some (by kernel_rfl))
  f335 := Tryz.func203.trans (congrArg some (by kernel_rfl))
  f336 := Tryz.func169.trans (congrArg some (by kernel_rfl))
  f344 := Tryz.func224.trans (congrArg some (by kernel_rfl))
  t0 := Tryz.underlying0
  a0 := Tryz.isAgg0
  z0 := Tryz.sizeOf0
  v0 := Tryz.zeroValue0
  t3 := Tryz.underlying3
  a3 := Tryz.isAgg3
  z3 := Tryz.sizeOf3
  v3 := Tryz.zeroValue3
  t4 := Tryz.underlying4
  a4 := Tryz.isAgg4
  z4 := Tryz.sizeOf4
  v4 := Tryz.zeroValue4
  t5 := Tryz.underlying5
  a5 := Tryz.isAgg5
  z5 := Tryz.sizeOf5
  v5 := Tryz.zeroValue5
  t9 := Tryz.underlying9
  a9 := Tryz.isAgg9
  z9 := Tryz.sizeOf9
  v9 := Tryz.zeroValue9
  t31 := Tryz.underlying37
  a31 := Tryz.isAgg37
  z31 := Tryz.sizeOf37
  v31 := Tryz.zeroValue37
  t46 := Tryz.underlying206
  a46 := Tryz.isAgg206
  z46 := Tryz.sizeOf206
  v46 := Tryz.zeroValue206
  t51 := Tryz.underlying214
  a51 := Tryz.isAgg214
  z51 := Tryz.sizeOf214
  v51 := Tryz.zeroValue214
  t53 := Tryz.underlying78
  a53 := Tryz.isAgg78
  z53 := Tryz.sizeOf78
  v53 := Tryz.zeroValue78
  t131 := Tryz.underlying151
  a131 := Tryz.isAgg151
  z131 := Tryz.sizeOf151
  v131 := Tryz.zeroValue151
  t182 := Tryz.underlying244
  a182 := Tryz.isAgg244
  z182 := Tryz.sizeOf244
  v182 := Tryz.zeroValue244
  t183 := Tryz.underlying245
  a183 := Tryz.isAgg245
  z183 := Tryz.sizeOf245
  v183 := Tryz.zeroValue245
  t218 := Tryz.underlying271
  a218 := Tryz.isAgg271
  z218 := Tryz.sizeOf271
  v218 := Tryz.zeroValue271
  t222 := Tryz.underlying275
  a222 := Tryz.isAgg275
  z222 := Tryz.sizeOf275
  v222 := Tryz.zeroValue275
  t228 := Tryz.underlying292
  a228 := Tryz.isAgg292
  z228 := Tryz.sizeOf292
  v228 := Tryz.zeroValue292
  t229 := Tryz.underlying293
  a229 := Tryz.isAgg293
  z229 := Tryz.sizeOf293
  v229 := Tryz.zeroValue293 }
open Go.Sort Go.RowKit in
theorem Tryz.slices_Sort_string (blk off cap : Nat) (ss : List (List UInt8)) (w : World) (hH : Holds encStr w blk off ss.toArray) (hblk : blk < w.heap.size) (hsz : ss.length < 4611686018427387904) :
    Calls Tryz.prog 91 #[.slice (some ⟨blk, off, none⟩) ss.length cap] w fun e w' =>
      e = .returned (.tuple #[]) ∧ ∃ n os, w' = grow (putRow encStr (Sort.ahead w n) blk off (ss.mergeSort fun x y => decide (x ≤ y)).toArray) os := Any.slices_Sort_string Tryz.lays190 blk off cap ss w hH hblk hsz
def Tryz.lays194_ren : Go.Shelf.Ren := ⟨fun | 194 => 165 | n => n, fun | 31 => 37 | 9 => 9 | 3 => 3 | 4 => 4 | 0 => 0 | n => n, fun | n => n⟩
theorem Tryz.lays194 : Go.Proofs.Lays.n194 Tryz.prog Tryz.lays194_ren := {
  mixed := by kernel_rfl
  f194 := Tryz.func165.trans (congrArg some (by kernel_rfl))
  t0 := Tryz.underlying0
  a0 := Tryz.isAgg0
  z0 := Tryz.sizeOf0
  v0 := Tryz.zeroValue0
  t3 := Tryz.underlying3
  a3 := Tryz.isAgg3
  z3 := Tryz.sizeOf3
  v3 := Tryz.zeroValue3
  t4 := Tryz.underlying4
  a4 := Tryz.isAgg4
  z4 := Tryz.sizeOf4
  v4 := Tryz.zeroValue4
  t9 := Tryz.underlying9
  a9 := Tryz.isAgg9
  z9 := Tryz.sizeOf9
  v9 := Tryz.zeroValue9
  t31 := Tryz.underlying37
  a31 := Tryz.isAgg37
  z31 := Tryz.sizeOf37
  v31 := Tryz.zeroValue37 }
open Go.RowKit Go.Lib Go.Sort in
theorem Tryz.slices_Compact_string (blk off cap : Nat) (zs : List (List UInt8)) (w : World) (hH : Holds encStr w blk off zs.toArray) (hsz : zs.length ≤ 9223372036854775807) (hcap : zs.length ≤ cap) :
    Calls Tryz.prog 165 #[.slice (some ⟨blk, off, none⟩) zs.length cap] w fun e w' => e = .returned (.slice (some ⟨blk, off, none⟩) (Lib.compact zs).length cap) ∧ ∃ q, w' = putRow encStr (Sort.ahead w q) blk off (Lib.compact zs ++ List.replicate (zs.length - (Lib.compact zs).length) []).toArray := Any.slices_Compact_string Tryz.lays194 blk off cap zs w hH hsz hcap
open Go.RowKit Go.Lib Go.Sort in
theorem Tryz.slices_Compact_string_empty (a : Option Addr) (cap : Nat) (w : World) :
    Calls Tryz.prog 165 #[.slice a 0 cap] w fun e w' => e = .returned (.slice a 0 cap) ∧ w' = w := Any.slices_Compact_string_empty Tryz.lays194 a cap w
open Go.RowKit Go.Sort in
theorem Tryz.slices_Sort_string_none (p : Option Addr) (cap : Nat) (w : World) :
    Calls Tryz.prog 91 #[.slice p 0 cap] w fun e w' => e = .returned (.tuple #[]) ∧ w' = w := Any.slices_Sort_string_none Tryz.lays190 p cap w
def Tryz.bsStr_ren : Go.Shelf.Ren := ⟨fun | 26 => 86 | 33 => 131 | 34 => 132 | 38 => 169 | n => n, fun | 24 => 37 | 9 => 9 | 3 => 3 | 4 => 4 | 40 => 206 | 0 => 0 | n => n, fun | n => n⟩
theorem Tryz.bsStr : Go.Proofs.Lays2.n26 Tryz.prog Tryz.bsStr_ren := {
  mixed := by kernel_rfl
  f26 := Tryz.func86.trans (congrArg some (by kernel_rfl))
  f33 := Tryz.func131.trans (congrArg some (by kernel_rfl))
  f34 := Tryz.func132.trans (congrArg some (by kernel_rfl))
  f38 := Tryz.func169.trans (congrArg some (by kernel_rfl))
  t0 := Tryz.underlying0
  a0 := Tryz.isAgg0
  z0 := Tryz.sizeOf0
  v0 := Tryz.zeroValue0
  t3 := Tryz.underlying3
  a3 := Tryz.isAgg3
  z3 := Tryz.sizeOf3
  v3 := Tryz.zeroValue3
  t4 := Tryz.underlying4
  a4 := Tryz.isAgg4
  z4 := Tryz.sizeOf4
  v4 := Tryz.zeroValue4
  t9 := Tryz.underlying9
  a9 := Tryz.isAgg9
  z9 := Tryz.sizeOf9
  v9 := Tryz.zeroValue9
  t24 := Tryz.underlying37
  a24 := Tryz.isAgg37
  z24 := Tryz.sizeOf37
  v24 := Tryz.zeroValue37
  t40 := Tryz.underlying206
  a40 := Tryz.isAgg206
  z40 := Tryz.sizeOf206
  v40 := Tryz.zeroValue206 }
end Go.Proofs


namespace Go.Proofs.YtnffagpdnklnkaaGreatDoor.Pak
open Go.RowKit Go.Proofs.YtnffagpdnklnkaaGreatDoor Go.Proofs.YtnffagpdnklnkaaGreatDoor.Spl SiftM
def lenV : Value → Nat
  | .slice _ n _ => n
  | _ => 0
theorem intV_one (l : List Nat) (x : Nat) : intV (l ++ [x]) = intV l ++ [Value.int .i64 (x : Int)] := by simp [intV]

set_option maxHeartbeats 2000000 in
set_option maxRecDepth 100000 in
theorem row_any (M c doc : Nat) (f : Nat → Nat → Option Nat) (iv tv : Value) (l : List Nat) (w : World) (hm : MapIs w M c f) (hl : ∀ i (h : i < l.length), f doc i = some l[i]) (he : f doc l.length = none) (hl2 : l.length ≤ 1000) (hd : doc ≤ 2000000) (hiv : iv.oneCell' = true) (htv : tv.oneCell' = true) :
    Calls Tryz.prog 146 #[.agg #[iv, tv, .map (some M)], .int .i64 doc] w fun e w' => ∃ v, e = .returned v ∧ w'.ownsRow w.heap.size 3 1 v l.length (intV l) ∧ Kp [] w w' := by
  obtain ⟨i0, hi, hz0, hz1, hz2⟩ := info_parts info3
  have hMw := hm.lt
  have HM := hide hm
  have HL := hide hl
  have HE := hide he
  clear hm hl he
  go_enter Tryz.func146, Tryz.ntmps146
  go_wp2_with fail
  obtain ⟨W, hW⟩ : ∃ W, w.alloc (.cells #[iv, tv, .map (some M)] 105) = W := ⟨_, rfl⟩
  rw [hW]
  have k0 : Kp [] w W := by rw [← hW]; exact (Kp.refl _ _).alloc _
  have hb0 : W.heap[w.heap.size]? = some (.cells #[iv, tv, .map (some M)] 105 (0, 0)) := by rw [← hW]; exact heap_alloc_new w _
  have hm0 := HM.out.kp k0 (by simp)
  have hsz0 : W.heap.size = w.heap.size + 1 := by rw [← hW]; simp
  have HB0 := hide hb0
  have HM0 := hide hm0
  clear hb0 hm0 hW
  go_loopw [5] (fun lv wr => ∃ (k : Nat) (a : Option Addr) (cap : Nat), k ≤ l.length ∧ lv = .slice a k cap ∧ wr.ownsRow w.heap.size 3 1 (.slice a k cap) k (intV (l.take k)) ∧ wr.heap[w.heap.size]? = some (.cells #[iv, tv, .map (some M)] 105 (0, 0)) ∧ MapIs wr M c f ∧ w.heap.size < wr.heap.size ∧ Kp [] w wr) (fun lv _ => l.length + 1 - lenV lv)
  case atStart => exact ⟨0, _, _, by omega, rfl, World.ownsRow_nil _ _ _ _, HB0.out, HM0.out, by omega, k0⟩
  case round =>
    clear HB0 HM0
    obtain ⟨k, a, cap, hk, rfl, hown, hb, hm, hsz, hkp⟩ := hrel
    obtain ⟨b0, b1, b2, _, _, _⟩ := tb_cells hb
    obtain ⟨x, hlook, hx⟩ := hm.look doc k (by omega) (by omega)
    have HO := hide hown
    have HB := hide hb
    have HMr := hide hm
    clear hown hb hm
    by_cases hlt : k < l.length
    · have hfk := HL.out k hlt
      rw [hfk] at hlook
      have hxk := hx _ hfk
      subst hxk
      simp only [Option.isSome_some] at hlook
      have hsn := hide (take_snocL l k hlt)
      obtain ⟨y, hy⟩ : ∃ y, l[k] = y := ⟨_, rfl⟩
      rw [hy] at hlook hsn
      clear hx hfk hy
      go_wp2_with (first
        | (at_builtin; refine wpList_append_own_at _ rfl _ _ 59 rfl w.heap.size 3 i0 (.int .i64 0) 1 8 Tryz.underlying59 hi hz0 hz1 hz2 rfl (by decide) _ _ _ rfl (HO.out.alloc _) ⟨wr.heap.size, 0, none⟩ 1 1 [.int .i64 (y : Int)] rfl rfl (one_new _ _ _) (one_cell _ _) ?c3 ?c4 ?c5 ?_)
        | fail)
      case c3 => unfold maxLen; omega
      case c4 => omega
      case c5 => simp; omega
      intro v' w2 hown2 hgrow _ _
      have hgrow' := hgrow
      obtain ⟨a', cap', rfl, _⟩ := owns_forms hown2
      have hwne := owns_ne HO.out HB.out (by decide)
      have hmne := owns_ne_map HO.out HMr.out
      have k2 : Kp (Value.slice a k cap).ownBlock.toList wr w2 := ((Kp.refl _ _).alloc _).grown hgrow (fun j hj => .inl (by simp [hj]))
      have hb2 := k2.heap HB.out (fun hx => hwne (by simpa using hx))
      have hm2 := HMr.out.kp k2 (fun hx => hmne (by simpa using hx))
      have hsz2 := k2.size
      have kp2 : Kp [] w w2 := hkp.trans k2 (fun x hx => .inr (HO.out.lt x (by simpa using hx)).1)
      have HO2 := hide hown2
      have HB2 := hide hb2
      have HM2 := hide hm2
      clear hown2 hb2 hm2 hgrow hgrow' hlook
      go_wp2_with fail
      go_roundw
      case rel =>
        refine ⟨k + 1, a', cap', by omega, rfl, ?_, HB2.out, HM2.out, by omega, kp2⟩
        rw [hsn.out, intV_one]
        exact HO2.out
      case measure => simp [lenV]; omega
    · have ek : k = l.length := by omega
      subst ek
      rw [HE.out] at hlook
      simp only [Option.isSome_none] at hlook
      clear hx
      go_wp2_with fail
      go_ret
      refine ⟨_, rfl, ?_, hkp⟩
      have := HO.out
      rwa [List.take_length] at this
end Go.Proofs.YtnffagpdnklnkaaGreatDoor.Pak
namespace Go.Proofs.YtnffagpdnklnkaaGreatDoor.Pak
open Go.RowKit Go.Proofs.YtnffagpdnklnkaaGreatDoor Go.Proofs.YtnffagpdnklnkaaGreatDoor.Spl SiftM Go.Sort
theorem put_heap {α : Type} [Inhabited α] (enc : α → Value) (w : World) (g m : Nat) (d : Array α) (os : Array Obj) {cur : Array Value} {e : TypeId} {fr : Nat × Nat} (hg : w.heap[g]? = some (.cells cur e fr)) :
    (Sort.grow (Sort.putRow enc (Sort.ahead w m) g 0 d) os).heap[g]? = some (.cells (Sort.putCells enc 0 d cur) e fr) := by
  have hlt := heap_lt hg
  rw [Sort.heap_grow_old _ _ (by simpa using hlt)]
  simp only [Sort.putRow, Sort.mapBlock, Sort.ahead, Array.getElem?_modify, if_true, hg, Option.map_some, Sort.onCells]
theorem put_kp {α : Type} [Inhabited α] (enc : α → Value) (w : World) (g m : Nat) (d : Array α) (os : Array Obj) : Kp [g] w (Sort.grow (Sort.putRow enc (Sort.ahead w m) g 0 d) os) := by
  refine ⟨rfl, rfl, rfl, by simp [Sort.ahead], fun k hk hn => ?_⟩
  rw [Sort.heap_grow_old _ _ (by simpa [Sort.ahead] using hk)]
  simp only [Sort.putRow, Sort.mapBlock, Sort.ahead, Array.getElem?_modify]
  rw [if_neg (by simp at hn; omega)]
theorem putCells_take {α : Type} [Inhabited α] (enc : α → Value) (d : Array α) (cur : Array Value) (h : d.size ≤ cur.size) : (Sort.putCells enc 0 d cur).toList.take d.size = d.toList.map enc := by
  apply List.ext_getElem?
  intro i
  rw [List.getElem?_take]
  by_cases hi : i < d.size
  · rw [if_pos hi]
    have hc : i < cur.size := by omega
    rw [Array.getElem?_toList]
    simp only [Sort.putCells, Array.getElem?_mapIdx, Array.getElem?_eq_getElem hc, Option.map_some, Nat.zero_le, Nat.zero_add, hi, and_self, if_true, Nat.sub_zero]
    simp [hi]
  · rw [if_neg hi]
    symm
    exact List.getElem?_eq_none (by simp; omega)
/-- A row behind the library's sorts. -/
theorem put_owns {α : Type} [Inhabited α] (enc : α → Value) {w : World} {base g n cap size : Nat} {e : TypeId} {xs : List Value} (h : w.ownsRow base e size (.slice (some ⟨g, 0, none⟩) n cap) n xs) (d : Array α) (hd : d.size = n * size) (m : Nat) (os : Array Obj) :
    (Sort.grow (Sort.putRow enc (Sort.ahead w m) g 0 d) os).ownsRow base e size (.slice (some ⟨g, 0, none⟩) n cap) n (d.toList.map enc) := by
  rcases h.2 with ⟨e1, _⟩ | ⟨g', cap', cur, e1, hb, hg, hn, hcm, hcs, ht⟩
  · simp at e1
  · simp at e1
    obtain ⟨rfl, rfl⟩ := e1
    refine ⟨by simp [hd], .inr ⟨g, cap, _, rfl, hb, put_heap enc w g m d os hg, hn, hcm, by simp [Sort.putCells, hcs], ?_⟩⟩
    rw [← hd]
    exact putCells_take enc d cur (by rw [hd, hcs]; exact Nat.mul_le_mul_right _ hn)
theorem owns_shrink {w : World} {base g n n' cap size : Nat} {e : TypeId} {xs : List Value} (h : w.ownsRow base e size (.slice (some ⟨g, 0, none⟩) n cap) n xs) (hn : n' ≤ n) : w.ownsRow base e size (.slice (some ⟨g, 0, none⟩) n' cap) n' (xs.take (n' * size)) := by
  rcases h.2 with ⟨e1, _⟩ | ⟨g', cap', cur, e1, hb, hg, hn', hcm, hcs, ht⟩
  · simp at e1
  · simp at e1
    obtain ⟨rfl, rfl⟩ := e1
    have hm : n' * size ≤ n * size := Nat.mul_le_mul_right _ hn
    refine ⟨by rw [List.length_take, h.1]; omega, .inr ⟨g, cap, cur, rfl, hb, hg, by omega, hcm, hcs, ?_⟩⟩
    rw [← ht, List.take_take, Nat.min_eq_left hm]
end Go.Proofs.YtnffagpdnklnkaaGreatDoor.Pak
namespace Go.Proofs.YtnffagpdnklnkaaGreatDoor.Pak
open Go.RowKit Go.Proofs.YtnffagpdnklnkaaGreatDoor Go.Proofs.YtnffagpdnklnkaaGreatDoor.Spl SiftM
def tx2 (xs : List (Nat × Value)) : List Value := xs.flatMap fun x => [Value.int .i64 (x.1 : Int), x.2]
def z2 : Nat → List Value
  | 0 => []
  | n + 1 => .int .i64 0 :: .slice none 0 0 :: z2 n
def partT (xs : List (Nat × Value)) (n : Nat) : Array Value := (tx2 xs ++ z2 (n - xs.length)).toArray
theorem tx2_len (xs : List (Nat × Value)) : (tx2 xs).length = xs.length * 2 := by
  induction xs with
  | nil => rfl
  | cons x r ih => simp [tx2] at ih ⊢; omega
theorem tx2_snoc (xs : List (Nat × Value)) (x : Nat × Value) : tx2 (xs ++ [x]) = tx2 xs ++ [.int .i64 (x.1 : Int), x.2] := by simp [tx2]
theorem z2_len (n : Nat) : (z2 n).length = n * 2 := by
  induction n with
  | zero => rfl
  | succ n ih => simp [z2, ih]; omega
theorem partT_id (xs : List (Nat × Value)) (n id : Nat) (h : xs.length < n) : (partT xs n).setIfInBounds (xs.length * 2) (.int .i64 (id : Int)) = partT (xs ++ [(id, .slice none 0 0)]) n := by
  unfold partT
  obtain ⟨d, hd⟩ : ∃ d, n - xs.length = d + 1 := ⟨n - xs.length - 1, by omega⟩
  have hd2 : n - (xs ++ [(id, Value.slice none 0 0)]).length = d := by simp; omega
  rw [hd2, hd, List.setIfInBounds_toArray]
  congr 1
  rw [tx2_snoc, List.set_append_right _ _ (by rw [tx2_len]; omega), tx2_len, Nat.sub_self, z2, List.set_cons_zero]
  simp
theorem partT_w (xs : List (Nat × Value)) (n id : Nat) (v0 v : Value) : (partT (xs ++ [(id, v0)]) n).setIfInBounds (xs.length * 2 + 1) v = partT (xs ++ [(id, v)]) n := by
  unfold partT
  have e1 : (xs ++ [(id, v0)]).length = (xs ++ [(id, v)]).length := by simp
  rw [e1, List.setIfInBounds_toArray]
  congr 1
  rw [tx2_snoc, tx2_snoc, List.append_assoc, List.append_assoc, List.set_append_right _ _ (by rw [tx2_len]; omega), tx2_len, show xs.length * 2 + 1 - xs.length * 2 = 1 by omega]
  simp
theorem partT_c0 {w : World} {L n : Nat} {xs : List (Nat × Value)} (h : w.heap[L]? = some (.cells (partT xs n) 50 (0, 0))) (hl : xs.length < n) : w.cell? ⟨L, xs.length * 2, none⟩ = some (.int .i64 0) ∧ w.frozen? ⟨L, xs.length * 2, none⟩ = false := by
  obtain ⟨d, hd⟩ : ∃ d, n - xs.length = d + 1 := ⟨n - xs.length - 1, by omega⟩
  constructor
  · simp only [World.cell?, h]
    unfold partT
    rw [List.getElem?_toArray, List.getElem?_append_right (by rw [tx2_len]; omega), tx2_len, Nat.sub_self, hd]
    rfl
  · simp [World.frozen?, h]
theorem info52 : (Tryz.prog.info? 50).map (fun i => (i.zero, i.size, i.bytes)) = some (some (.agg #[.int .i64 0, .slice none 0 0]), 2, 32) := by kernel_rfl
theorem z2_at : ∀ (n i : Nat), i < n * 2 → (z2 n)[i]? = some (if i % 2 = 0 then .int .i64 0 else .slice none 0 0)
  | 0, i, h => by omega
  | n + 1, 0, h => by simp [z2]
  | n + 1, 1, h => by simp [z2]
  | n + 1, i + 2, h => by
    have := z2_at n i (by omega)
    simp only [z2, List.getElem?_cons_succ]
    rw [this]
    congr 2
    simp
theorem made_two (n : Nat) : madeCells #[.int .i64 0, .slice none 0 0] (n * 2) = (z2 n).toArray := by
  apply Array.ext
  · simp [size_madeCells, z2_len]
  · intro i h1 h2
    have h3 : i < n * 2 := by simpa [size_madeCells] using h1
    have h4 := z2_at n i h3
    have h5 : (z2 n).toArray[i]? = some ((z2 n).toArray[i]) := Array.getElem?_eq_getElem h2
    rw [List.getElem?_toArray, h4] at h5
    simp only [Option.some.injEq] at h5
    rw [← h5]
    simp only [madeCells, Array.getElem_map, Array.getElem_range]
    have : i % 2 = 0 ∨ i % 2 = 1 := by omega
    rcases this with e | e <;> simp [e]
theorem make_texts (c : Nat) (w : World) (hc : c ≤ 2000000) : (Instr.makeSlice 45 (.int .i64 c) (.int .i64 c)).run Tryz.prog w = .ok (.slice (some ⟨w.heap.size, 0, none⟩) c c) (w.alloc (.cells (partT [] c) 50)) := by
  obtain ⟨i0, hi, hz0, hz1, hz2⟩ := info_parts info52
  have := run_make (P := Tryz.prog) w 45 50 i0 (.agg #[.int .i64 0, .slice none 0 0]) Tryz.underlying45 hi hz0 .i64 .i64 c c (by omega) (by omega) (by rw [hz2]; omega) (by omega)
  rw [hz1] at this
  simp only [Int.toNat_natCast] at this
  rw [this, show (Value.agg #[.int .i64 0, .slice none 0 0]).cells = #[.int .i64 0, .slice none 0 0] from rfl, made_two]
  simp [partT, tx2]

/-- A list of texts: v holds T; vs: the lists of their words. -/
structure TextsIs (w : World) (base : Nat) (v : Value) (T : List (Nat × List (List UInt8))) (vs : List Value) : Prop where
  len : vs.length = T.length
  row : w.ownsRow base 50 2 v T.length (tx2 ((T.map Prod.fst).zip vs))
  each : ∀ i (h : i < T.length) (h2 : i < vs.length), w.ownsRow base 9 1 vs[i] T[i].2.length (strV T[i].2)
  apart : ∀ i j (hi : i < vs.length) (hj : j < vs.length), i < j → ∀ g, vs[i].ownBlock = some g → vs[j].ownBlock ≠ some g
end Go.Proofs.YtnffagpdnklnkaaGreatDoor.Pak
