import Derived.Test.YtnffagpdnklnkaaGreatDoorV05
import Derived.Test.YtnffagpdnklnkaaGreatDoorV23
import Derived.Test.YtnffagpdnklnkaaGreatDoorV27
import Derived.Test.YtnffagpdnklnkaaGreatDoorV17
import Derived.Test.YtnffagpdnklnkaaGreatDoorV28
import Derived.Test.YtnffagpdnklnkaaGreatDoorV24
import Derived.Test.YtnffagpdnklnkaaGreatDoorV25
set_option linter.unusedVariables false
set_option linter.unusedSimpArgs false
set_option maxRecDepth 8000
namespace Go.Proofs
open Go.Shelf
def Tryz.sortMov_ren : Go.Shelf.Ren := ⟨fun | 6 => 160 | 15 => 135 | 14 => 193 | 28 => 178 | 29 => 137 | 20 => 215 | 21 => 216 | 22 => 217 | 23 => 218 | 24 => 219 | 25 => 220 | 26 => 221 | 27 => 222 | 46 => 229 | 47 => 200 | 48 => 201 | 49 => 230 | 50 => 231 | 57 => 234 | n => n, fun | 22 => 188 | 24 => 191 | 25 => 232 | 3 => 3 | 39 => 206 | 0 => 0 | 53 => 214 | 55 => 78 | 4 => 4 | 46 => 245 | 45 => 244 | 50 => 151 | 5 => 5 | 9 => 9 | 66 => 271 | 70 => 275 | 76 => 292 | 77 => 293 | n => n, fun | n => n⟩
theorem Tryz.sortMov : Go.Proofs.SlLaysF0.n6 Tryz.prog Tryz.sortMov_ren := {
  mixed := by kernel_rfl
  f6 := ⟨ "slices.SortFunc[[]sift/sift.moved,sift/sift.moved]", by decide, Tryz.func160.trans (congrArg some (by kernel_rfl))⟩
  f14 := ⟨ "slices.pdqsortCmpFunc[sift/sift.moved]", by decide, Tryz.func193.trans (congrArg some (by kernel_rfl))⟩
  f15 := Tryz.func135.trans (congrArg some (by kernel_rfl))
  f20 := ⟨ "slices.insertionSortCmpFunc[sift/sift.moved]", by decide, Tryz.func215.trans (congrArg some (by kernel_rfl))⟩
  f21 := ⟨ "slices.heapSortCmpFunc[sift/sift.moved]", by decide, Tryz.func216.trans (congrArg some (by kernel_rfl))⟩
  f22 := ⟨ "slices.breakPatternsCmpFunc[sift/sift.moved]", by decide, Tryz.func217.trans (congrArg some (by kernel_rfl))⟩
  f23 := ⟨ "slices.choosePivotCmpFunc[sift/sift.moved]", by decide, Tryz.func218.trans (congrArg some (by kernel_rfl))⟩
  f24 := ⟨ "slices.reverseRangeCmpFunc[sift/sift.moved]", by decide, Tryz.func219.trans (congrArg some (by kernel_rfl))⟩
  f25 := ⟨ "slices.partialInsertionSortCmpFunc[sift/sift.moved]", by decide, Tryz.func220.trans (congrArg some (by kernel_rfl))⟩
  f26 := ⟨ "slices.partitionEqualCmpFunc[sift/sift.moved]", by decide, Tryz.func221.trans (congrArg some (by kernel_rfl))⟩
  f27 := ⟨ "slices.partitionCmpFunc[sift/sift.moved]", by decide, Tryz.func222.trans (congrArg some (by kernel_rfl))⟩
  f28 := Tryz.func178.trans (congrArg some (by kernel_rfl))
  f29 := Tryz.func137.trans (congrArg some (by kernel_rfl))
  f46 := ⟨ "slices.siftDownCmpFunc[sift/sift.moved]", by decide, Tryz.func229.trans (congrArg some (by kernel_rfl))⟩
  f47 := Tryz.func200.trans (congrArg some (by kernel_rfl))
  f48 := Tryz.func201.trans (congrArg some (by kernel_rfl))
  f49 := ⟨ "slices.medianAdjacentCmpFunc[sift/sift.moved]", by decide, Tryz.func230.trans (congrArg some (by kernel_rfl))⟩
  f50 := ⟨ "slices.medianCmpFunc[sift/sift.moved]", by decide, Tryz.func231.trans (congrArg some (by kernel_rfl))⟩
  f57 := ⟨ "slices.order2CmpFunc[sift/sift.moved]", by decide, Tryz.func234.trans (congrArg some (by kernel_rfl))⟩
  t0 := Tryz.underlying0
  a0 := Tryz.isAgg0
  z0 := Tryz.sizeOf0
  v0 := Tryz.zeroValue0
  t3 := Tryz.underlying3
  a3 := Tryz.isAgg3
  z3 := Tryz.sizeOf3
  v3 := Tryz.zeroValue3
  t4 := Tryz.underlying4
  a4 := Tryz.isAgg4
  z4 := Tryz.sizeOf4
  v4 := Tryz.zeroValue4
  t5 := Tryz.underlying5
  a5 := Tryz.isAgg5
  z5 := Tryz.sizeOf5
  v5 := Tryz.zeroValue5
  t9 := Tryz.underlying9
  a9 := Tryz.isAgg9
  z9 := Tryz.sizeOf9
  v9 := Tryz.zeroValue9
  t22 := Tryz.underlying188
  a22 := Tryz.isAgg188
  z22 := Tryz.sizeOf188
  v22 := Tryz.zeroValue188
  t25 := Tryz.underlying232
  a25 := Tryz.isAgg232
  z25 := Tryz.sizeOf232
  v25 := Tryz.zeroValue232
  t39 := Tryz.underlying206
  a39 := Tryz.isAgg206
  z39 := Tryz.sizeOf206
  v39 := Tryz.zeroValue206
  t45 := Tryz.underlying244
  a45 := Tryz.isAgg244
  z45 := Tryz.sizeOf244
  v45 := Tryz.zeroValue244
  t46 := Tryz.underlying245
  a46 := Tryz.isAgg245
  z46 := Tryz.sizeOf245
  v46 := Tryz.zeroValue245
  t50 := Tryz.underlying151
  a50 := Tryz.isAgg151
  z50 := Tryz.sizeOf151
  v50 := Tryz.zeroValue151
  t53 := Tryz.underlying214
  a53 := Tryz.isAgg214
  z53 := Tryz.sizeOf214
  v53 := Tryz.zeroValue214
  t55 := Tryz.underlying78
  a55 := Tryz.isAgg78
  z55 := Tryz.sizeOf78
  v55 := Tryz.zeroValue78
  t66 := Tryz.underlying271
  a66 := Tryz.isAgg271
  z66 := Tryz.sizeOf271
  v66 := Tryz.zeroValue271
  t70 := Tryz.underlying275
  a70 := Tryz.isAgg275
  z70 := Tryz.sizeOf275
  v70 := Tryz.zeroValue275
  t76 := Tryz.underlying292
  a76 := Tryz.isAgg292
  z76 := Tryz.sizeOf292
  v76 := Tryz.zeroValue292
  t77 := Tryz.underlying293
  a77 := Tryz.isAgg293
  z77 := Tryz.sizeOf293
  v77 := Tryz.zeroValue293 }

end Go.Proofs
namespace Go.Proofs.YtnffagpdnklnkaaGreatDoor.Pak
open Go.RowKit Go.Proofs.YtnffagpdnklnkaaGreatDoor Go.Proofs.YtnffagpdnklnkaaGreatDoor.Spl SiftM Go.Sort
set_option linter.unusedVariables false
set_option linter.unusedSimpArgs false

/-- A doc that a merge takes over: its text, whether it is dead, where its words lie. -/
abbrev Mv := Tx × Bool × (Option Addr × Nat × Nat)
def mvW (x : Mv) : Value := .slice x.2.2.1 x.2.2.2.1 x.2.2.2.2
def encMv (x : Mv) : List Value := [.int .i64 (x.1.1 : Int), mvW x, .bool x.2.1]
def movV (D : List Mv) : List Value := D.flatMap encMv
theorem movV_len (D : List Mv) : (movV D).length = D.length * 3 := by
  induction D with
  | nil => rfl
  | cons x r ih => simp [movV, encMv] at ih ⊢; omega
theorem movV_snoc (l : List Mv) (x : Mv) : movV (l ++ [x]) = movV l ++ encMv x := by simp [movV]
theorem movV_get : ∀ (D : List Mv) (i : Nat) (h : i < D.length) (j : Nat), j < 3 → (movV D)[i * 3 + j]? = (encMv D[i])[j]?
  | x :: r, 0, h, j, hj => by
    have e : movV (x :: r) = encMv x ++ movV r := by simp [movV]
    rw [e, List.getElem?_append_left (by simp [encMv]; omega)]; simp
  | x :: r, i + 1, h, j, hj => by
    have ih := movV_get r i (by simpa using h) j hj
    have e : movV (x :: r) = encMv x ++ movV r := by simp [movV]
    rw [e, List.getElem?_append_right (by simp [encMv]; omega)]
    rw [show (i + 1) * 3 + j - (encMv x).length = i * 3 + j by simp [encMv]; omega]
    simpa using ih
theorem flat_movV (d : Array Mv) : (Sort.flatK encMv 3 d).toList = movV d.toList := by
  apply List.ext_getElem?
  intro t
  by_cases ht : t < d.size * 3
  · have h1 := Sort.get_flatK encMv 3 d t ht
    have hs : t < (Sort.flatK encMv 3 d).size := by rw [Sort.size_flatK]; exact ht
    rw [Array.getElem?_toList, Array.getElem?_eq_getElem hs]
    rw [getElem!_pos _ t hs] at h1
    rw [h1]
    have hq : t / 3 < d.toList.length := by simp; omega
    have hg := movV_get d.toList (t / 3) hq (t % 3) (by omega)
    rw [show t / 3 * 3 + t % 3 = t by omega] at hg
    have hd : d[t / 3]! = d.toList[t / 3] := by rw [getElem!_pos d (t / 3) (by simpa using hq)]; simp
    rw [hg, hd]
    have hm : t % 3 < (encMv d.toList[t / 3]).length := by simp [encMv]; omega
    rw [List.getElem?_eq_getElem hm, ← getElem!_pos (encMv d.toList[t / 3]) (t % 3) hm]
  · rw [List.getElem?_eq_none (by simp; omega), List.getElem?_eq_none (by rw [movV_len]; simp; omega)]
theorem encMv_one (x : Mv) (v : Value) (h : v ∈ encMv x) : v.oneCell' = true := by
  simp [encMv, mvW] at h
  rcases h with rfl | rfl | rfl <;> rfl
set_option maxHeartbeats 2000000 in
theorem cmpMv (x y : Mv) (W : World) : Calls Tryz.prog 161 #[.agg #[.int .i64 (x.1.1 : Int), mvW x, .bool x.2.1], .agg #[.int .i64 (y.1.1 : Int), mvW y, .bool y.2.1]] W fun e w' => e = .returned (.int .i64 (Lib.compareInt x.1.1 y.1.1)) ∧ ∃ q os', w' = Sort.grow (W.drewN q) os' := by
  have hcon := fun W' => Tryz.cmp_Compare_int x.1.1 y.1.1 W'
  generalize Lib.compareInt x.1.1 y.1.1 = r at hcon ⊢
  unfold mvW
  go_enter Tryz.func161, Tryz.ntmps161
  go_wp2_with (go_at_call 162; refine (hcon _).mono ?_; rintro e w' ⟨rfl, rfl⟩)
  go_ret
  exact ⟨rfl, 0, _, by rw [Sort.alloc_eq_grow, Sort.alloc_eq_grow, Sort.grow_grow]; rfl⟩
def cmMv (x y : Mv) : Int := Lib.compareInt x.1.1 y.1.1
theorem cmpLaysMv (blk off size : Nat) (w : World) : CmpLays Tryz.prog 161 #[] encMv 3 cmMv blk off size w :=
  fun _ _ _ _ x y => cmpMv x y _
theorem ltMv (x y : Mv) : ltOf cmMv x y = decide (x.1.1 < y.1.1) := by
  unfold ltOf cmMv Lib.compareInt
  by_cases h1 : (x.1.1 : Int) < y.1.1
  · simp [h1]; omega
  · by_cases h2 : (y.1.1 : Int) < x.1.1
    · simp [h1, h2]; omega
    · simp [h1, h2]; omega
theorem swoMv : SWO (ltOf cmMv) where
  irrefl x := by rw [ltMv]; simp
  trans x y z h1 h2 := by rw [ltMv] at *; simp at *; omega
  ntrans x y z h1 h2 := by rw [ltMv] at *; simp at *; omega
/-- The docs of D, in the order of their ids. -/
def SortMv (D D' : List Mv) : Prop := D'.Perm D ∧ D'.Pairwise fun x y => x.1.1 ≤ y.1.1
theorem holds_mov {w : World} {B g n cap : Nat} {D : List Mv} (h : w.ownsRow B 191 3 (.slice (some ⟨g, 0, none⟩) n cap) n (movV D)) (hl : D.length = n) : HoldsK encMv 3 w g 0 D.toArray := by
  intro j hj
  rw [Sort.size_flatK] at hj
  rcases h.2 with ⟨e1, _⟩ | ⟨g', cap', cur, e1, hb, hg, hn', hcm, hcs, ht⟩
  · simp at e1
  · simp at e1
    obtain ⟨rfl, rfl⟩ := e1
    have hf := flat_movV D.toArray
    have hs : j < (Sort.flatK encMv 3 D.toArray).size := by rw [Sort.size_flatK]; exact hj
    constructor
    · have hget : (movV D)[j]? = some ((Sort.flatK encMv 3 D.toArray)[j]!) := by
        rw [← hf, Array.getElem?_toList, getElem!_pos _ j hs, Array.getElem?_eq_getElem hs]
      have hc := h.cells (g := g) rfl j _ hget
      have e : (⟨g, 0, none⟩ : Addr).add j = ⟨g, j, none⟩ := by unfold Addr.add; split <;> simp_all
      rw [e] at hc
      simpa using hc
    · simp [World.frozen?, hg]
set_option maxHeartbeats 2000000 in
set_option maxRecDepth 100000 in
theorem sortMv_any (B : Nat) (v : Value) (D : List Mv) (w : World) (h : w.ownsRow B 191 3 v D.length (movV D)) (hn : D.length ≤ 2000000) :
    Calls Tryz.prog 160 #[v, .func (.func 161) #[] #[]] w fun e w' => ∃ D', e = .returned (.tuple #[]) ∧ w'.ownsRow B 191 3 v D.length (movV D') ∧ SortMv D D' ∧ Kp v.ownBlock.toList w w' := by
  rcases h.2 with ⟨rfl, h0⟩ | ⟨g, cap, cur, rfl, hb, hg, rest⟩
  · have hD : D = [] := List.eq_nil_of_length_eq_zero h0
    subst hD
    have hS := AnyF.slices_SortFunc_none { Tryz.sortMov with } none 0 (.func (.func 161) #[] #[]) w
    change Calls Tryz.prog 160 _ _ _ at hS
    refine hS.mono ?_
    rintro e w2 ⟨rfl, rfl⟩
    exact ⟨[], rfl, h, ⟨List.Perm.refl _, List.Pairwise.nil⟩, Kp.refl _ _⟩
  · have eg : ∀ args w, (callFunc 161 args).run Tryz.prog w = .ok (.enter 161 args) w := enters_of Tryz.func161 (by kernel_rfl) rfl
    have hH := holds_mov h rfl
    have hcon := AnyQ.slices_SortFunc Tryz.sortMov 3 Tryz.isAgg191 Tryz.sizeOf191 encMv (fun _ => rfl) (fun x v hv => encMv_one x v hv) cmMv swoMv 161 #[] g 0 cap D.toArray w eg (cmpLaysMv g 0 D.toArray.size w) hH (heap_lt hg) (by simp; omega)
    change Calls Tryz.prog 160 _ _ _ at hcon
    simp only [List.size_toArray] at hcon
    refine hcon.mono ?_
    rintro e w2 ⟨rfl, d', n, os, hp, hs, rfl⟩
    have hsz : d'.size = D.length := by have := hp.1; simpa using this
    refine ⟨d'.toList, rfl, ?_, ⟨?_, ?_⟩, ?_⟩
    · have := put_owns id h (Sort.flatK encMv 3 d') (by rw [Sort.size_flatK, hsz]) n os
      rw [List.map_id, flat_movV] at this
      exact this
    · have := hp.2.2
      have e1 : d'.extract 0 D.length = d' := by rw [← hsz]; simp
      have e2 : D.toArray.extract 0 D.length = D.toArray := by
        have : D.length = D.toArray.size := by simp
        rw [this]; simp
      rw [e1, e2] at this
      simpa using this
    · rw [List.pairwise_iff_getElem]
      intro i j hi hj hij
      have h1 := hs i j (Nat.zero_le _) hij (by simp at hj; omega)
      rw [ltMv] at h1
      simp at hi hj
      rw [getElem!_pos d' i hi, getElem!_pos d' j hj] at h1
      simp at h1
      simpa using h1
    · exact (put_kp id w g n (Sort.flatK encMv 3 d') os).mono (by simp [Value.ownBlock])
end Go.Proofs.YtnffagpdnklnkaaGreatDoor.Pak

namespace Go.Proofs.YtnffagpdnklnkaaGreatDoor.Pak
open Go.RowKit Go.Proofs.YtnffagpdnklnkaaGreatDoor Go.Proofs.YtnffagpdnklnkaaGreatDoor.Spl SiftM
set_option maxHeartbeats 1000000 in
/-- A doc of a segment, with words of its own. -/
theorem segText_any (lo hi q num M d : Nat) (T : List Tx) (iv tv : Value) (w : World) (h : SegIs w lo hi q num T iv tv M) (hf : Fine T) (hd : d < T.length) :
    Calls Tryz.prog 158 #[.pointer (some ⟨q, 0, none⟩), .int .i64 (d : Int)] w fun e w' => ∃ v, e = .returned (.agg #[.int .i64 (T[d].1 : Int), v]) ∧ w'.ownsRow w.heap.size 9 1 v T[d].2.length (strV T[d].2) ∧ Kp [] w w' := by
  have hsm : ∀ t ∈ T, t.2.length ≤ 60 := hf.few
  have hnt := allW_le T hsm
  have hlen := hf.len
  obtain ⟨W, hW⟩ : ∃ W, w.alloc (.cells #[.int .i64 0, .slice none 0 0] 50) = W := ⟨_, rfl⟩
  have k1 : Kp [] w W := by rw [← hW]; exact (Kp.refl _ _).alloc _
  have hs1 : W.heap.size = w.heap.size + 1 := by rw [← hW]; simp
  have hb1 : W.heap[w.heap.size]? = some (.cells #[.int .i64 0, .slice none 0 0] 50 (0, 0)) := by rw [← hW]; exact heap_alloc_new w _
  have h' := h.kp k1 (by simp)
  have hrl : d < (rowsOf T).length := by rw [rows_len]; exact hd
  have htx := text_any M (cntTo (rowsOf T) T.length) lo d (upTo (rowsOf T) T.length 0) iv tv (T.map Prod.fst) (termsOf T) (rowsOf T) W h'.at' (by rw [List.length_map]; exact h'.ids) h'.terms (rows_upTo T hsm) (by rw [rows_len, List.length_map]) (by rw [List.length_map]; exact hlen) (by omega) (by rw [List.length_map]; exact hd) hrl
  have e1 : (T.map Prod.fst)[d]'(by rw [List.length_map]; exact hd) = T[d].1 := by simp
  have e2 : wordsOf (termsOf T) (rowsOf T)[d] = T[d].2 := by
    have : (rowsOf T)[d] = T[d].2.map (bsIx (termsOf T)) := by simp [rowsOf]
    rw [this]; exact words_back T T[d] (List.getElem_mem hd)
  rw [e1, e2] at htx
  obtain ⟨M2, aa, ca, st, H, hc⟩ := h'.cells
  obtain ⟨ia, ic, ei, _⟩ := owns_forms h'.ids
  obtain ⟨ta, tc, et, _⟩ := owns_forms h'.terms
  subst ei et
  obtain ⟨c1, c2, c3⟩ : W.cell? ⟨q, 1, none⟩ = some (.slice ia T.length ic) ∧ W.cell? ⟨q, 2, none⟩ = some (.slice ta (termsOf T).length tc) ∧ W.cell? ⟨q, 3, none⟩ = some (.map (some M)) := by refine ⟨?_, ?_, ?_⟩ <;> simp [World.cell?, hc]
  obtain ⟨x, hx⟩ : ∃ x, T[d] = x := ⟨_, rfl⟩
  rw [hx] at htx ⊢
  have HB := hide hb1
  clear h h' hc hx e1 e2 hb1
  go_enter Tryz.func158, Tryz.ntmps158
  go_wp2_with (simp only [hW])
  refine htx.mono ?_
  rintro e w1 ⟨v, rfl, ho, k2⟩
  have hbb := k2.heap HB.out (by simp)
  obtain ⟨p0, p1, f0, f1⟩ := pr_cells hbb
  obtain ⟨va, vc, ev, _⟩ := owns_forms ho
  subst ev
  obtain ⟨WF, hWF⟩ : ∃ WF, (w1.setCell ⟨w.heap.size, 0, none⟩ (.int .i64 (x.1 : Int))).setCell ⟨w.heap.size, 1, none⟩ (.slice va x.2.length vc) = WF := ⟨_, rfl⟩
  have kF : Kp [w.heap.size] w1 WF := by rw [← hWF]; exact (kp_set _ _ _ _).next (kp_set _ _ _ _)
  have hbF : WF.heap[w.heap.size]? = some (.cells #[.int .i64 (x.1 : Int), .slice va x.2.length vc] 50 (0, 0)) := by
    rw [← hWF, heap_setCell_same _ _ 1 _ 50 _ (heap_setCell_same _ _ 0 _ 50 _ hbb)]; rfl
  obtain ⟨r0, r1, _, _⟩ := pr_cells hbF
  have kA : Kp [] w WF := (k1.next k2).trans kF (fun y hy => by simp at hy; subst hy; exact .inr (Nat.le_refl _))
  have hoF : WF.ownsRow w.heap.size 9 1 (.slice va x.2.length vc) x.2.length (strV x.2) := owns_low (kF.owns ho (fun g hg hx => by
    have := (ho.lt g hg).1
    simp at hx; omega)) (by omega)
  have HO := hide hoF
  clear htx hoF ho hbb hbF
  go_wp2_with (simp only [hWF])
  exact bodyPost_ret (v := .agg #[.int .i64 (x.1 : Int), .slice va x.2.length vc]) (by simp [results, Tryz.results158, go_sem, r0, r1]) rfl ⟨_, rfl, HO.out, kA⟩
theorem setHas_any (s d : Nat) (w : World) (hs : s < 18446744073709551616) (hd : d < 64) :
    Calls Tryz.prog 159 #[.int .u64 (s : Int), .int .i64 (d : Int)] w fun e w' => e = .returned (.bool (s.testBit d)) ∧ w' = w := by
  have h0 : (0 : Int) ≤ (d : Int) := by omega
  go_enter Tryz.func159, Tryz.ntmps159
  go_wp2_with fail
  go_ret
  refine ⟨?_, rfl⟩
  have e1 : ((s : Int) / 2 ^ d) = ((s / 2 ^ d : Nat) : Int) := by simp
  have hle : s / 2 ^ d ≤ s := Nat.div_le_self _ _
  show Ending.returned (Value.bool (bits .and .u64 ((s : Int) / 2 ^ d) ((1 : Nat) : Int) == 1)) = _
  rw [e1, u64_and_nat _ _ (by omega) (by omega), Nat.and_one_is_mod, Nat.testBit_eq_decide_div_mod_eq]
  congr 2
  by_cases h : s / 2 ^ d % 2 = 1
  · rw [h]; simp
  · have : s / 2 ^ d % 2 = 0 := by omega
    rw [this]; simp
end Go.Proofs.YtnffagpdnklnkaaGreatDoor.Pak
namespace Go.Proofs.YtnffagpdnklnkaaGreatDoor.Pak
open Go.RowKit Go.Proofs.YtnffagpdnklnkaaGreatDoor Go.Proofs.YtnffagpdnklnkaaGreatDoor.Spl SiftM Go.Maps
/-- The parts of a class. -/
def ofCls (fac : Nat) (Ps : List PPt) (k : Nat) : List Nat := (Ps.filter fun t => decide (clsF fac t.T.length = k)).map PPt.p
theorem ofCls_snoc (fac : Nat) (Ps : List PPt) (t : PPt) : ofCls fac (Ps ++ [t]) = putF (ofCls fac Ps) (clsF fac t.T.length) (ofCls fac Ps (clsF fac t.T.length) ++ [t.p]) := by
  funext k
  unfold ofCls putF
  by_cases e : k = clsF fac t.T.length
  · subst e
    simp
  · rw [if_neg e]
    simp [Ne.symm e]
theorem ofCls_len (fac : Nat) (Ps : List PPt) (k : Nat) : (ofCls fac Ps k).length ≤ Ps.length := by
  unfold ofCls
  rw [List.length_map]
  exact List.length_filter_le _ _
/-- The keys of the classes, as the library reads them. -/
theorem px_fac {w : World} {X B : Nat} {O : List Nat} {s : PSt} (h : PIs w X B O s) : w.cell? ⟨X, 1, none⟩ = some (.int .i64 (s.fac : Int)) := by
  simp [World.cell?, h.blk, pxC, pxA]
theorem sortsI (m : Nat) : AnyZI.SortsIn Tryz.prog Tryz.laysZI6_ren Fence.wide m :=
  ⟨fun blk off cap ss W hH hblk hsz => callsIn_wide.2 (Tryz.slices_Sort_int blk off cap ss W hH hblk hsz),
   fun p cap W => callsIn_wide.2 (Tryz.slices_Sort_int_none p cap W)⟩
def keysL (f : Nat → List Nat) : List Int := ((List.range 1001).filter fun k => decide (f k ≠ [])).map fun (k : Nat) => (k : Int)
theorem keysL_mem (f : Nat → List Nat) (z : Int) : z ∈ keysL f ↔ ∃ k : Nat, z = (k : Int) ∧ k ≤ 1000 ∧ f k ≠ [] := by
  unfold keysL
  simp only [List.mem_map, List.mem_filter, List.mem_range, decide_eq_true_eq]
  constructor
  · rintro ⟨k, ⟨h1, h2⟩, rfl⟩; exact ⟨k, rfl, by omega, h2⟩
  · rintro ⟨k, rfl, h1, h2⟩; exact ⟨k, ⟨by omega, h2⟩, rfl⟩
theorem keysL_nodup (f : Nat → List Nat) : (keysL f).Nodup := by
  unfold keysL
  exact List.Pairwise.map _ (fun a b h e => h (by omega)) (List.nodup_range.sublist List.filter_sublist)
theorem CmIs.keys {w : World} {B M n : Nat} {f : Nat → List Nat} {vf : Nat → Value} (h : CmIs w B M n f vf) : ∃ D : DataW Value, w.ownsMap Tryz.prog 3 anyR M n D ∧ (intKeys D).Perm (keysL f) := by
  obtain ⟨D, hown, hhas, hat, hkey⟩ := h.map
  refine ⟨D, hown, ?_⟩
  obtain ⟨es, hD, hpw, _⟩ := hown.entries idsK
  obtain ⟨es', hD', hko⟩ := hown.keysOf
  obtain rfl : es = es' := by rw [hD] at hD'; simpa using hD'
  subst hD
  refine (perm_intKeys hpw (fun p hp => ?_) (keysL_nodup f) (fun z => ?_)).symm
  · obtain ⟨v, hv⟩ := hko p hp
    cases v <;> simp [keyOf, Tryz.underlying3, mapKey] at hv
    exact ⟨_, hv.2.symm⟩
  · rw [keysL_mem]
    constructor
    · rintro ⟨k, rfl, h1, h2⟩
      have := hhas k h1
      unfold idK at this
      rw [this]
      simpa using h2
    · intro hz
      obtain ⟨k, rfl, hk⟩ := hkey z hz
      have := hhas k hk
      unfold idK at this
      rw [this] at hz
      exact ⟨k, rfl, hk, by simpa using hz⟩
/-- slices.Sorted(maps.Keys(classes)), in two calls. -/
theorem ckeys_any (mb : Nat) (w : World) :
    Calls Tryz.prog 115 #[.map (some mb)] w fun e w' => e = .returned (.func (.func 153) #[] #[.pointer (some ⟨w.heap.size, 0, none⟩)]) ∧ w' = w.alloc (.cells #[.map (some mb)] 175) :=
  (callsIn_wide (n := 5)).1 (AnyZI.keys_in Tryz.laysZI7 Fence.wide 5 trivial rfl (some mb) w)
set_option maxHeartbeats 1000000 in
theorem csorted_any {B M n : Nat} {f : Nat → List Nat} {vf : Nat → Value} (w : World) (h : CmIs w B M n f vf) :
    Calls Tryz.prog 114 #[.func (.func 153) #[] #[.pointer (some ⟨w.heap.size, 0, none⟩)]] (w.alloc (.cells #[.map (some M)] 175)) fun e w' => ∃ (v : Value) (ss : List Int), e = .returned v ∧ w'.ownsRow w.heap.size 3 1 v ss.length (ss.map fun z : Int => .int .i64 z) ∧ (∀ z ∈ ss, ∃ k : Nat, z = (k : Int) ∧ k ≤ 1000) ∧ ss.length ≤ 1001 ∧ Kp [] w w' := by
  obtain ⟨D, hown, hperm⟩ := h.keys
  have hlen : (intKeys D).length ≤ 1001 := by
    rw [hperm.length_eq]
    unfold keysL
    rw [List.length_map]
    have := List.length_filter_le (fun k => decide (f k ≠ [])) (List.range 1001)
    simpa using this
  have hsz : Maps.size D ≤ 1001 := by
    obtain ⟨es, hD, _, _⟩ := hown.entries idsK
    rw [hD] at hlen ⊢
    simpa [intKeys, Maps.size] using hlen
  have hbl := hown.lt
  have hseq : SeqGives Fence.wide 2 Tryz.prog 153 #[.pointer (some ⟨w.heap.size, 0, none⟩)] encZ (fun ss => ss.Perm (intKeys D)) (Maps.size D) (w.alloc (.cells #[.map (some M)] 175)) :=
    AnyZI.keys_gives (ρ := Tryz.laysZI7_ren) { Tryz.laysZI7 with } Fence.wide _ trivial rfl (by omega) w.heap.size M n D _ (by simp) (by simp) (by
      obtain ⟨es, clock, hb, Ft, hs, hD⟩ := hown
      exact ⟨es, clock, (Below.heap_alloc _ _ M hbl).trans hb, Ft, hs, hD⟩)
  have cS := AnyZI.sorted_in Tryz.laysZI6 Fence.wide 5 trivial trivial trivial trivial rfl (by omega) (sortsI _) (enters_of Tryz.func152 (by kernel_rfl) rfl) 153 #[.pointer (some ⟨w.heap.size, 0, none⟩)] trivial (enters_of Tryz.func153 (by kernel_rfl) rfl) _ _ (by unfold maxLen; omega) (by omega) _ hseq
  change CallsIn _ _ Tryz.prog 114 _ _ _ at cS
  refine ((callsIn_wide (n := 5)).1 cS).mono ?_
  rintro e w' ⟨v, ss, rfl, hS, hrow, hnil, hb⟩
  have hp : ss.Perm (keysL f) := hS.trans hperm
  refine ⟨v, ss.mergeSort (fun x y => decide (x ≤ y)), rfl, ?_, fun z hz => ?_, ?_, ?_⟩
  · have hr := ownsRow_base_a (base' := w.heap.size) hrow (by simp)
    rw [List.length_mergeSort]
    exact hr
  · have h1 : z ∈ ss := List.mem_mergeSort.1 hz
    obtain ⟨k, e, h2, _⟩ := (keysL_mem f z).1 (hp.mem_iff.1 h1)
    exact ⟨k, e, h2⟩
  · rw [List.length_mergeSort, hp.length_eq, ← hperm.length_eq]
    exact hlen
  · exact Kp.of_below _ (((Below.refl _ w).alloc (Nat.le_refl _) _).trans (hb.mono (by simp)))
set_option maxHeartbeats 4000000 in
theorem due_any (X B n : Nat) (O : List Nat) (s : PSt) (w : World) (h : PIs w X B O s) (hf : 2 ≤ s.fac) (hf2 : s.fac ≤ 1000) (hn : s.Ps.length = n) (hb : n ≤ 1000000) :
    Calls Tryz.prog 71 #[.pointer (some ⟨X, 0, none⟩)] w fun e w' => ∃ a c ps, e = .returned (.slice a ps.length c) ∧ (ps = [] ∨ ∃ k, ps = (ofCls s.fac s.Ps k).take s.fac ∧ ps.length = s.fac) ∧ (0 < ps.length → ∃ g, a = some ⟨g, 0, none⟩ ∧ ∀ i (hi : i < ps.length), w'.cell? ⟨g, i, none⟩ = some (.pointer (some ⟨ps[i], 0, none⟩))) ∧ Kp [] w w' := by
  obtain ⟨i0, hi0, hz0, hz1, hz2⟩ := info_parts info128
  obtain ⟨x0, x6, x7, x8, x9, x10, xf⟩ := px_cells h
  have x1 := px_fac h
  obtain ⟨ag, cp, ep, hag⟩ := owns_forms h.parts
  rw [hn] at ep hag
  rw [ep] at x8
  have hrow := h.parts
  rw [hn, ep] at hrow
  have HW := hide hrow
  have HE := hide h.each
  have HN := hide hn
  have hXlt : X < w.heap.size := heap_lt h.blk
  clear h hrow hn
  obtain ⟨fac, hfac⟩ : ∃ fac, s.fac = fac := ⟨_, rfl⟩
  rw [hfac] at hf hf2 x1 ⊢
  have hmm := @run_makeMap Tryz.prog
  obtain ⟨W1, hW1⟩ : ∃ W1, w.alloc (.map #[] 0) = W1 := ⟨_, rfl⟩
  have hcm1 := cmIs_made w w.heap.size
  rw [hW1] at hcm1
  have k1 : Kp [] w W1 := by rw [← hW1]; exact (Kp.refl _ _).alloc _
  have hs1 : W1.heap.size = w.heap.size + 1 := by rw [← hW1]; simp
  have HC1 := hide hcm1
  have x81 := k1.cellv x8 (by simp)
  clear hcm1
  go_enter Tryz.func71, Tryz.ntmps71
  go_wp2_with (first | simp only [hmm] | simp only [hW1])
  clear hmm hW1
  go_loopw [21] (fun iv wr => ∃ (i : Nat) (vf : Nat → Value), i ≤ n ∧ iv = .int .i64 (i : Int) ∧ Hid (CmIs wr w.heap.size w.heap.size i (ofCls fac (s.Ps.take i)) vf) ∧ Hid (∀ k, ofCls fac (s.Ps.take i) k = [] → vf k = .slice none 0 0) ∧ Hid (Kp [] w wr)) (fun iv _ => n - (intOf iv).toNat)
  case atStart => exact ⟨0, fun _ => .slice none 0 0, by omega, rfl, HC1, fun k _ => rfl, k1⟩
  case round =>
    obtain ⟨i, vf, hi, rfl, hC, hN, hK⟩ := hrel
    have hzr := hK.out.size
    by_cases hlt : i < n
    · obtain ⟨g, rfl⟩ := hag (by omega)
      have hiL : i < s.Ps.length := by rw [HN.out]; exact hlt
      have hpc := ptV_cell (hK.out.owns HW.out (by simp)) i hiL
      have hp0 := (HE.out _ (List.getElem_mem hiL)).kp0 hK.out
      have hta : ofCls fac (s.Ps.take (i + 1)) = putF (ofCls fac (s.Ps.take i)) (clsF fac (s.Ps[i]).T.length) (ofCls fac (s.Ps.take i) (clsF fac (s.Ps[i]).T.length) ++ [(s.Ps[i]).p]) := by rw [take_snocL s.Ps i hiL, ofCls_snoc]
      obtain ⟨t, ht⟩ : ∃ t, s.Ps[i] = t := ⟨_, rfl⟩
      rw [ht] at hpc hp0 hta
      obtain ⟨p0, p1⟩ := part_two hp0
      have hT60 := hp0.fine.len
      have hsl := segLen_any t.q t.num t.T.length (termsOf t.T).length (St.refSets (termsOf t.T)).length ((bodyT t.T).length + 4) wr hp0.seg.segC
      have hcl := classOf_any t.T.length fac wr (by omega) hf hf2
      have hkl := clsF_le fac t.T.length hf
      obtain ⟨k, hk⟩ : ∃ k, clsF fac t.T.length = k := ⟨_, rfl⟩
      rw [hk] at hcl hkl hta
      have hlook := hC.out.look hN.out k (by omega)
      have hrow := hC.out.row k
      have hfl := ofCls_len fac (s.Ps.take i) k
      rw [List.length_take] at hfl
      obtain ⟨va, vc, ev, _⟩ := owns_forms hrow
      obtain ⟨L, hL⟩ : ∃ L, ofCls fac (s.Ps.take i) k = L := ⟨_, rfl⟩
      rw [hL] at hrow hfl hta ev
      rw [ev] at hlook hrow
      obtain ⟨ll, hll⟩ : ∃ ll, L.length = ll := ⟨_, rfl⟩
      rw [hll] at hlook hrow hfl
      obtain ⟨W2, hW2⟩ : ∃ W2, wr.alloc (.cells #[.pointer (some ⟨t.p, 0, none⟩)] 76) = W2 := ⟨_, rfl⟩
      have k2 : Kp [] wr W2 := by rw [← hW2]; exact (Kp.refl _ _).alloc _
      have hs2 : W2.heap.size = wr.heap.size + 1 := by rw [← hW2]; simp
      have hn2 : W2.heap[wr.heap.size]? = some (.cells #[.pointer (some ⟨t.p, 0, none⟩)] 76 (0, 0)) := by rw [← hW2]; exact heap_alloc_new wr _
      have hnews := World.news_of_block hn2
      have hrow2 := k2.owns hrow (by simp)
      have j1 : (0 : Int) ≤ (i : Int) := by omega
      have j2 : (i : Int) < (n : Int) := by omega
      have HTA := hide hta
      have HL := hide hL
      have HLL := hide hll
      have EV := hide ev
      clear hp0 hta ht hk hL hll ev
      go_wp2_with fail
      refine hsl.mono ?_
      rintro e w5 ⟨rfl, rfl⟩
      go_wp2_with fail
      refine hcl.mono ?_
      rintro e w6 ⟨rfl, rfl⟩
      go_wp2_with (first
        | simp only [hlook]
        | simp only [hW2]
        | (at_builtin; (refine wpList_append_own_at _ rfl _ _ 66 rfl w.heap.size 76 i0 (.pointer none) 1 8 Tryz.underlying66 hi0 hz0 hz1 hz2 rfl (by decide) _ _ _ rfl hrow2 ⟨_, 0, none⟩ 1 1 _ rfl rfl hnews (by simp [Value.oneCell']) (by unfold maxLen; omega) (by omega) (by omega) ?_; intro u' W3 hown3 hgrow _ hblk; obtain ⟨ua', uc', eu', _⟩ := owns_forms hown3; subst eu')))
      have k23 := grown_kp hgrow
      have kw3 : Kp (Value.slice va ll vc).ownBlock.toList w6 W3 := (k2.mono (by simp)).next k23
      have hrow3 : W3.ownsRow w.heap.size 76 1 (.slice ua' (ll + 1) uc') ((ofCls fac (s.Ps.take i) k).length + 1) (ptL (ofCls fac (s.Ps.take i) k ++ [t.p])) := by
        rw [HL.out, HLL.out]
        have : ptL (L ++ [t.p]) = ptL L ++ [.pointer (some ⟨t.p, 0, none⟩)] := by simp [ptL]
        rw [this]
        exact hown3
      obtain ⟨W4, hup, hC4, k4⟩ := hC.out.store (by omega) k t.p (by omega) hrow3 kw3 (fun x hx => by rw [EV.out, HLL.out]; exact Option.mem_toList.1 hx) (by
        rcases hblk with e | e
        · left; rw [e, EV.out]; cases va <;> rfl
        · right; exact ⟨_, e, by omega⟩)
      have hlow : ∀ x ∈ (Value.slice va ll vc).ownBlock.toList, w.heap.size ≤ x := fun x hx => (hrow.lt x (Option.mem_toList.1 hx)).1
      have hK4 : Hid (Kp [] w W4) := (hK.out.trans kw3 (fun x hx => .inr (hlow x hx))).trans k4 (fun x hx => .inr (by simp at hx; omega))
      have hC5 : Hid (CmIs W4 w.heap.size w.heap.size (i + 1) (ofCls fac (s.Ps.take (i + 1))) (putF vf k (.slice ua' (ll + 1) uc'))) := by
        show CmIs _ _ _ _ _ _
        rw [HTA.out, ← HL.out]
        exact hC4
      have hN5 : Hid (∀ j, ofCls fac (s.Ps.take (i + 1)) j = [] → putF vf k (.slice ua' (ll + 1) uc') j = .slice none 0 0) := fun j hj => by
        rw [HTA.out] at hj
        unfold putF at hj ⊢
        by_cases e : j = k
        · rw [if_pos e] at hj; simp at hj
        · rw [if_neg e] at hj ⊢
          exact hN.out j hj
      clear hrow3 hC4 hown3 hgrow hblk kw3 k23 k4 hlow
      go_wp2_with (simp only [hup])
      go_roundw
      case rel => exact ⟨i + 1, _, by omega, by go_num, hC5, hN5, hK4⟩
      case measure => simp [intOf]; omega
    · have hin : i = n := by omega
      subst hin
      have htk : s.Ps.take i = s.Ps := List.take_of_length_le (by rw [HN.out]; exact Nat.le_refl _)
      have hCf := hC.out
      have hNf := hN.out
      rw [htk] at hCf hNf
      have hck := ckeys_any w.heap.size wr
      have hcs := csorted_any wr hCf
      obtain ⟨W2, hW2⟩ : ∃ W2, wr.alloc (.cells #[.map (some w.heap.size)] 175) = W2 := ⟨_, rfl⟩
      rw [hW2] at hck hcs
      have HCF := hide hCf
      have HNF := hide hNf
      clear hCf hNf hC hN hW2 HC1
      go_wp2_with fail
      refine hck.mono ?_
      rintro e w2 ⟨rfl, rfl⟩
      go_wp2_with fail
      refine hcs.mono ?_
      rintro e W3 ⟨kv, ss, rfl, hkv, hks, hkl, k3⟩
      obtain ⟨ka, kc, ekv, hka⟩ := owns_forms hkv
      subst ekv
      obtain ⟨m, hm⟩ : ∃ m, ss.length = m := ⟨_, rfl⟩
      rw [hm] at hkv hka hkl
      rw [hm]
      have HC3 := hide (HCF.out.kp k3 (by simp) (by simp))
      have HKV := hide hkv
      have HM := hide hm
      have hK3 := hK.out.next k3
      clear hck hcs hkv hm
      go_wp2_with fail
      go_loopw [45] (fun jv wj => ∃ (j : Nat), j ≤ m ∧ jv = .int .i64 (j : Int) ∧ wj = W3) (fun jv _ => m - (intOf jv).toNat)
      case atStart => exact ⟨0, by omega, rfl, rfl⟩
      case round =>
        obtain ⟨j, hj, rfl, rfl⟩ := hrel
        by_cases hlt2 : j < m
        · obtain ⟨gk, rfl⟩ := hka (by omega)
          have hjL : j < ss.length := by rw [HM.out]; exact hlt2
          have hcell := HKV.out.cellAt j (by omega)
          rw [List.getElem?_map, List.getElem?_eq_getElem hjL] at hcell
          simp only [Option.map_some] at hcell
          obtain ⟨k, hzk, hk1⟩ := hks _ (List.getElem_mem hjL)
          rw [hzk] at hcell
          have hlook := HC3.out.look HNF.out k hk1
          have hrow := HC3.out.row k
          obtain ⟨va, vc, ev, hva⟩ := owns_forms hrow
          rw [ev] at hlook hrow
          obtain ⟨L, hL⟩ : ∃ L, ofCls fac s.Ps k = L := ⟨_, rfl⟩
          rw [hL] at hlook hrow hva
          obtain ⟨ll, hll⟩ : ∃ ll, L.length = ll := ⟨_, rfl⟩
          rw [hll] at hlook hrow hva
          have j1 : (0 : Int) ≤ (j : Int) := by omega
          have j2 : (j : Int) < (m : Int) := by omega
          by_cases hge : fac ≤ ll
          · have hI : (fac : Int) ≤ (ll : Int) := by omega
            obtain ⟨gv, rfl⟩ := hva (by omega)
            have hcap : ll ≤ vc := by
              rcases hrow.2 with ⟨e1, _⟩ | ⟨g', cap', cur, e1, hb', hg', hn', _⟩
              · simp at e1
              · simp at e1; omega
            have HRow := hide hrow
            have HL := hide hL
            have HLL := hide hll
            clear hrow hL hll ev
            go_wp2_with (simp only [hlook])
            go_ret
            have hpl : (L.take fac).length = fac := by rw [List.length_take, HLL.out]; omega
            refine ⟨some ⟨gv, 0, none⟩, vc, L.take fac, ?_, .inr ⟨k, by rw [HL.out], hpl⟩, fun _ => ⟨gv, rfl, fun i hi => ?_⟩, hK3⟩
            · rw [hpl]; rfl
            · rw [hpl] at hi
              have hiL : i < L.length := by rw [HLL.out]; omega
              rw [HRow.out.cellAt i (by omega)]
              simp [ptL, hiL]
          · have hI : ¬ (fac : Int) ≤ (ll : Int) := by omega
            go_wp2_with (simp only [hlook])
            go_roundw
            case rel => exact ⟨j + 1, by omega, by go_num, by trivial⟩
            case measure => simp [intOf]; omega
        · go_wp2_with fail
          go_ret
          exact ⟨none, 0, [], rfl, .inl rfl, fun h => by simp at h, hK3⟩
end Go.Proofs.YtnffagpdnklnkaaGreatDoor.Pak
