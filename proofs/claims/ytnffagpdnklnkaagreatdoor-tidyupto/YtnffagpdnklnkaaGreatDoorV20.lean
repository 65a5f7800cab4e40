import Derived.Test.YtnffagpdnklnkaaGreatDoorV18
import Derived.Test.YtnffagpdnklnkaaGreatDoorV19
import Derived.Shelf.Spec.SlicesInsertGrow
import Derived.Laws.IdiomCopy
import Derived.Laws.Externs
import Derived.Lib.Overlaps
import Derived.Lib.AppendZerosOnto
import Derived.Lib.SliceRun
import Derived.Deep.RegionLaw
set_option linter.unusedVariables false
set_option linter.unusedSimpArgs false
set_option maxRecDepth 8000
namespace Go.Proofs.YtnffagpdnklnkaaGreatDoor.Pak
open Go.RowKit Go.Proofs.YtnffagpdnklnkaaGreatDoor Go.Proofs.YtnffagpdnklnkaaGreatDoor.Spl SiftM
/-- Cells written into a row. -/
def putA (cur : Array Value) : Nat → List Value → Array Value
  | _, [] => cur
  | o, v :: r => putA (cur.setIfInBounds o v) (o + 1) r
theorem putA_size : ∀ (vs : List Value) (cur : Array Value) (o : Nat), (putA cur o vs).size = cur.size
  | [], _, _ => rfl
  | v :: r, cur, o => by rw [putA, putA_size r]; simp
theorem putA_list : ∀ (vs : List Value) (cur : Array Value) (o : Nat), o + vs.length ≤ cur.size → (putA cur o vs).toList = cur.toList.take o ++ vs ++ cur.toList.drop (o + vs.length)
  | [], cur, o, h => by simp [putA]
  | v :: r, cur, o, h => by
    have hl : o < cur.toList.length := by simp at h; simp; omega
    rw [putA, putA_list r _ (o + 1) (by simp at h ⊢; omega), Array.toList_setIfInBounds]
    rw [List.take_set, List.drop_set_of_lt (by omega), List.take_add_one, List.getElem?_eq_getElem hl]
    rw [show o + 1 + r.length = o + (v :: r).length by simp; omega]
    have e : (cur.toList.take o ++ (some cur.toList[o]).toList).set o v = cur.toList.take o ++ [v] := by
      rw [List.set_append_right _ _ (by rw [List.length_take]; omega)]
      have : o - (cur.toList.take o).length = 0 := by rw [List.length_take]; omega
      rw [this]; rfl
    rw [e]
    simp
theorem heap_setCells_same : ∀ (vs : List Value) (w : World) (g o : Nat) (cur : Array Value) (t : TypeId), w.heap[g]? = some (.cells cur t (0, 0)) → (w.setCells g o vs).heap[g]? = some (.cells (putA cur o vs) t (0, 0))
  | [], w, g, o, cur, t, h => h
  | v :: r, w, g, o, cur, t, h => heap_setCells_same r _ g (o + 1) _ t (heap_setCell_same w g o cur t v h)
theorem kp_setCells : ∀ (vs : List Value) (w : World) (g o : Nat), Kp [g] w (w.setCells g o vs)
  | [], w, g, o => Kp.refl _ _
  | v :: r, w, g, o => (kp_set w g o v).next (kp_setCells r _ g (o + 1))
theorem cells_at {w : World} {g : Nat} {cur : Array Value} {t : TypeId} (h : w.heap[g]? = some (.cells cur t (0, 0))) (j : Nat) : w.cell? ⟨g, j, none⟩ = cur.toList[j]? ∧ w.frozen? ⟨g, j, none⟩ = false := by
  constructor
  · simp [World.cell?, h]
  · simp [World.frozen?, h]
/-- Copy, of elements of k cells. -/
theorem run_copyK (w : World) (dT sT ty elem : TypeId) (b o dLen dCap : Nat) (a : Addr) (sLen sCap k : Nat) (cs : List Value)
    (hu : Tryz.prog.underlying dT = some (.slice elem)) (hs : (Tryz.prog.info? elem).map (·.size) = some k) (hn : cs.length = Nat.min sLen dLen * k)
    (hsrc : ∀ j v, cs[j]? = some v → w.cell? (a.add j) = some v) (hc : ∀ j, j < cs.length → (w.cell? ⟨b, o + j, none⟩).isSome = true) (hf : ∀ j, j < cs.length → w.frozen? ⟨b, o + j, none⟩ = false) (h1 : ∀ v ∈ cs, v.oneCell' = true) :
    (Builtin.copy_ #[dT, sT] ty #[.slice (some ⟨b, o, none⟩) dLen dCap, .slice (some a) sLen sCap]).run Tryz.prog w = .ok (goInt (Nat.min sLen dLen)) (w.setCells b o cs) := by
  have hl := run_loadCells_list (P := Tryz.prog) w a cs hsrc
  have hst := run_storeCells_cells (P := Tryz.prog) b o cs 0 w (by simpa using hc) (by simpa using hf) h1
  cases hq : Tryz.prog.info? elem with
  | none => simp [hq] at hs
  | some i =>
    have hi : i.size = k := by simpa [hq] using hs
    simp [Builtin.copy_, run_underlying hu, Builtin.lenOf, Builtin.firstCells, sizeOf, typeInfo, hq, hi, ← hn, hl, hst]
end Go.Proofs.YtnffagpdnklnkaaGreatDoor.Pak
set_option maxRecDepth 100000
namespace Go.Proofs.YtnffagpdnklnkaaGreatDoor.Pak
open Go.RowKit Go.Proofs.YtnffagpdnklnkaaGreatDoor Go.Proofs.YtnffagpdnklnkaaGreatDoor.Spl SiftM Go.Lib
theorem size226 : (Tryz.prog.info? 50).map (·.size) = some 2 := by kernel_rfl
theorem sizeOf226 (w : World) : (sizeOf 50).run Tryz.prog w = .ok 2 w := by kernel_rfl
theorem ownBlock_cap (a : Option Addr) (n c c' : Nat) : (Value.slice a n c).ownBlock = (Value.slice a n c').ownBlock := by cases a <;> rfl
set_option maxHeartbeats 4000000 in
/-- slices.Insert at the end. -/
theorem ginsert_end (B n vb : Nat) (v x0 x1 : Value) (xs : List Value) (w : World) (h : w.ownsRow B 50 2 v n xs) (hn : n ≤ 1000) (hB : B ≤ w.heap.size) (hv : w.heap[vb]? = some (.cells #[x0, x1] 50 (0, 0))) (h1 : ∀ u ∈ [x0, x1], u.oneCell' = true) :
    Calls Tryz.prog 150 #[v, .int .i64 (n : Int), .slice (some ⟨vb, 0, none⟩) 1 1] w fun e w' => ∃ v', e = .returned v' ∧ w'.ownsRow B 50 2 v' (n + 1) (xs ++ [x0, x1]) ∧ (v'.ownBlock = v.ownBlock ∨ v'.ownBlock = some w.heap.size) ∧ Kp v.ownBlock.toList w w' := by
  obtain ⟨i0, hi0, hz0, hz1, hz2⟩ := info_parts info52
  obtain ⟨a, c, rfl, _⟩ := owns_forms h
  obtain ⟨ob, hob⟩ : ∃ ob, ∀ c', (Value.slice a n c').ownBlock = ob := ⟨_, fun c' => ownBlock_cap a n c' c⟩
  rw [hob c]
  have HH := hide h
  have HV := hide hv
  have H1 := hide h1
  have HOB := hide hob
  clear h hv h1 hob
  go_enter Tryz.func150, Tryz.ntmps150
  go_wp2_with (first
    | (at_builtin; refine wpList_append_own_at _ rfl _ _ 45 rfl B 50 i0 (.agg #[.int .i64 0, .slice none 0 0]) 2 32 Tryz.underlying45 hi0 hz0 hz1 hz2 rfl (by decide) _ _ _ rfl HH.out ⟨vb, 0, none⟩ 1 1 [x0, x1] rfl rfl (World.news_of_block (cs := #[x0, x1]) (t := 50) (fr := (0, 0)) HV.out) H1.out (by unfold maxLen; omega) (by omega) hB ?_)
    | fail)
  all_goals
    intro v5 w5 ho5 hgrow _ hat
    rw [HOB.out] at hgrow hat
    have k5 : Kp ob.toList w w5 := (Kp.refl _ _).grown hgrow (fun j hj => .inl (by simp [hj]))
    have HO := hide ho5
    clear ho5 hgrow
    go_wp2_with fail
    go_ret
    exact ⟨v5, rfl, HO.out, hat, k5⟩

set_option maxHeartbeats 4000000 in
/-- slices.Insert in the middle, with room. -/
theorem ginsert_shift (n c i g vb : Nat) (x0 x1 : Value) (cur : Array Value) (w : World) (hg : w.heap[g]? = some (.cells cur 50 (0, 0))) (hcs : cur.size = c * 2) (hi : i < n) (hroom : n + 1 ≤ c) (hn : n ≤ 1000) (hc63 : c ≤ 9223372036854775807) (hv : w.heap[vb]? = some (.cells #[x0, x1] 50 (0, 0))) (hvb : vb ≠ g)
    (h1 : ∀ u ∈ [x0, x1], u.oneCell' = true) (h1c : ∀ u ∈ cur.toList.take (n * 2), u.oneCell' = true) :
    Calls Tryz.prog 150 #[.slice (some ⟨g, 0, none⟩) n c, .int .i64 (i : Int), .slice (some ⟨vb, 0, none⟩) 1 1] w fun e w' => e = .returned (.slice (some ⟨g, 0, none⟩) (n + 1) c) ∧
      w'.heap[g]? = some (.cells (putA (putA cur ((i + 1) * 2) ((cur.toList.take (n * 2)).drop (i * 2))) (i * 2) [x0, x1]) 50 (0, 0)) ∧ Kp [g] w w' := by
  have hcl := fun j => cells_at hg j
  have hvl := fun j => cells_at hv j
  have hsa : w.shape? vb = some (50, 2) := by simp [World.shape?, hv]
  have hsb : w.shape? g = some (50, cur.size) := by simp [World.shape?, hg]
  have hov : ∀ lb cb, (callFunc 187 #[.slice (some ⟨vb, 0, none⟩) 1 1, .slice (some ⟨g, (i + 1) * 2, none⟩) lb cb]).run Tryz.prog w = .ok (.value (.bool false)) w := fun lb cb => by
    rw [run_callFunc_extern Tryz.func187 (by kernel_rfl) (by kernel_rfl) (by kernel_rfl) (e := Extern.SlicesOverlaps.overlaps #[45, 45] #[4]) (by kernel_rfl),
      Lib.run_overlaps_apart w 45 4 50 Tryz.underlying45 2 sizeOf226 ⟨vb, 0, none⟩ ⟨g, (i + 1) * 2, none⟩ 1 1 lb cb hvb 50 50 2 cur.size hsa hsb (by omega) (hvl 0).2 (hvl 2).2]
    rfl
  have hw1 : IntKind.i64.wrap ((i : Int) + 1) = (i : Int) + 1 := by rw [IntKind.wrap_i64]; omega
  have hz2 : ¬ ((i : Int) = (n : Int)) := by omega
  have hb1 : (0 : Int) ≤ (i : Int) + 1 := by omega
  have hin : i ≤ n := by omega
  have htn : ((i : Int) + 1).toNat = i + 1 := by omega
  have hb2 : ¬ (c = i + 1) := by omega
  have hb3 : (i : Int) ≤ (n : Int) + 1 := by omega
  have hb4 : ¬ (c = i) := by omega
  have HG := hide hg
  have HV := hide hv
  have HCL := hide hcl
  have HVL := hide hvl
  clear hsa hsb
  obtain ⟨cs, hcsE⟩ : ∃ cs, (cur.toList.take (n * 2)).drop (i * 2) = cs := ⟨_, rfl⟩
  have hcl2 : cs.length = (n - i) * 2 := by rw [← hcsE, List.length_drop, List.length_take, Array.length_toList, hcs]; omega
  have hsrc : ∀ j u, cs[j]? = some u → w.cell? ⟨g, i * 2 + j, none⟩ = some u := by
    intro j u hj
    rw [(hcl _).1]
    rw [← hcsE, List.getElem?_drop, List.getElem?_take] at hj
    split at hj
    · exact hj
    · cases hj
  have hsome : ∀ j, j < (n + 1) * 2 → (w.cell? ⟨g, j, none⟩).isSome = true := by
    intro j hj
    rw [(hcl _).1, List.getElem?_eq_getElem (by rw [Array.length_toList, hcs]; omega)]
    rfl
  have hcp1 : ∀ ty dc sc, (Builtin.copy_ #[45, 45] ty #[.slice (some ⟨g, (i + 1) * 2, none⟩) (n - i) dc, .slice (some ⟨g, i * 2, none⟩) (n + 1 - i) sc]).run Tryz.prog w.drew = .ok (goInt (Nat.min (n + 1 - i) (n - i))) (w.drew.setCells g ((i + 1) * 2) cs) := fun ty dc sc =>
    run_copyK w.drew 45 45 ty 50 g ((i + 1) * 2) (n - i) dc ⟨g, i * 2, none⟩ (n + 1 - i) sc 2 cs Tryz.underlying45 size226 (by rw [hcl2]; congr 1; simp only [Nat.min_def]; split <;> omega)
      (fun j u hj => by rw [Addr.add_lit]; exact hsrc j u hj)
      (fun j hj => hsome _ (by rw [hcl2] at hj; omega)) (fun j hj => (hcl _).2) (fun u hu => h1c u (by rw [← hcsE] at hu; exact List.mem_of_mem_drop hu))
  rw [hcsE]
  obtain ⟨W1, hW1⟩ : ∃ W1, w.drew.setCells g ((i + 1) * 2) cs = W1 := ⟨_, rfl⟩
  have hg1 : W1.heap[g]? = some (.cells (putA cur ((i + 1) * 2) cs) 50 (0, 0)) := by rw [← hW1]; exact heap_setCells_same cs w.drew g _ cur 50 hg
  have k1 : Kp [g] w W1 := by rw [← hW1]; exact Kp.next (b := w.drew) ⟨rfl, rfl, rfl, Nat.le_refl _, fun _ _ _ => rfl⟩ (kp_setCells cs w.drew g _)
  have hv1 := k1.heap hv (by simpa using hvb)
  have hcl3 := fun j => cells_at hg1 j
  have hcp2 : ∀ ty dc, (Builtin.copy_ #[45, 45] ty #[.slice (some ⟨g, i * 2, none⟩) (n + 1 - i) dc, .slice (some ⟨vb, 0, none⟩) 1 1]).run Tryz.prog W1 = .ok (goInt (Nat.min 1 (n + 1 - i))) (W1.setCells g (i * 2) [x0, x1]) := fun ty dc =>
    run_copyK W1 45 45 ty 50 g (i * 2) (n + 1 - i) dc ⟨vb, 0, none⟩ 1 1 2 [x0, x1] Tryz.underlying45 size226 (by simp only [Nat.min_def]; rw [if_pos (by omega)]; rfl)
      (fun j u hj => by rw [Addr.add_lit, (cells_at hv1 _).1]; simpa using hj)
      (fun j hj => by
        simp at hj
        rw [(hcl3 _).1, List.getElem?_eq_getElem (by rw [Array.length_toList, putA_size, hcs]; omega)]
        rfl) (fun j hj => (hcl3 _).2) h1
  have hg2 := heap_setCells_same [x0, x1] W1 g (i * 2) _ 50 hg1
  have k2 : Kp [g] w (W1.setCells g (i * 2) [x0, x1]) := k1.next (kp_setCells _ W1 g _)
  obtain ⟨W2, hW2⟩ : ∃ W2, W1.setCells g (i * 2) [x0, x1] = W2 := ⟨_, rfl⟩
  rw [hW1] at hcp1
  rw [hW2] at hcp2 hg2 k2
  have HG2 := hide hg2
  clear hcl hvl hg hv hsrc hsome hg1 hv1 hcl3 hg2 HCL HVL
  go_enter Tryz.func150, Tryz.ntmps150
  go_wp2_with (simp only [hov])
  go_region_law ((refine step_copy_runI rfl _ _ 45 45 rfl _ _ (by simp [Act.eval, Act.put]) (by simp [Act.eval, Act.put]) (hcp1 _ _ _) ?_))
  go_wp2_with (at_builtin; refine wpList_copy_runI _ rfl _ _ 45 45 rfl _ _ rfl rfl (hcp2 _ _) ?_)
  go_ret
  exact ⟨rfl, HG2.out, k2⟩

set_option maxHeartbeats 4000000 in
/-- slices.Insert in the middle, without room. -/
theorem ginsert_grow (n i g vb : Nat) (x0 x1 : Value) (cur : Array Value) (w : World) (hg : w.heap[g]? = some (.cells cur 50 (0, 0))) (hcs : cur.size = n * 2) (hi : i < n) (hn : n ≤ 1000) (hv : w.heap[vb]? = some (.cells #[x0, x1] 50 (0, 0)))
    (h1 : ∀ u ∈ [x0, x1], u.oneCell' = true) (h1c : ∀ u ∈ cur.toList, u.oneCell' = true) :
    Calls Tryz.prog 150 #[.slice (some ⟨g, 0, none⟩) n n, .int .i64 (i : Int), .slice (some ⟨vb, 0, none⟩) 1 1] w fun e w' => ∃ (G : Nat) (row : Array Value), e = .returned (.slice (some ⟨w.heap.size, 0, none⟩) (n + 1) G) ∧ n + 1 ≤ G ∧ G ≤ maxLen ∧ row.size = G * 2 ∧
      w'.heap[w.heap.size]? = some (.cells row 50 (0, 0)) ∧ row.toList.take ((n + 1) * 2) = cur.toList.take (i * 2) ++ [x0, x1] ++ cur.toList.drop (i * 2) ∧ Kp [] w w' := by
  obtain ⟨i0, hi0, hz0, hzs, hzb⟩ := info_parts info52
  have hcl := fun j => cells_at hg j
  have hvl := fun j => cells_at hv j
  have hgw := heap_lt hg
  have hvw := heap_lt hv
  have hz2 : ¬ ((i : Int) = (n : Int)) := by omega
  have hz3 : (n : Int) < (n : Int) + 1 := by omega
  have hkk : (n : Int) + 1 - (i : Int) = ((n + 1 - i : Nat) : Int) := by omega
  have hik : i + (n + 1 - i) = n + 1 := by omega
  have htl : (cur.toList.take (i * 2)).length = i * 2 := by rw [List.length_take, Array.length_toList, hcs]; omega
  have hold : (Builtin.firstCells i0.size i (.slice (some ⟨g, 0, none⟩) i n)).run Tryz.prog w.drew = .ok (cur.toList.take (i * 2)).toArray w.drew := by
    rw [hzs]
    exact run_firstCells_some w.drew 2 i ⟨g, 0, none⟩ i n (cur.toList.take (i * 2)) htl (fun j v hj => by
      rw [Addr.add_lit, Nat.zero_add]
      rw [List.getElem?_take] at hj
      split at hj
      · show w.cell? _ = _
        rw [(hcl j).1]; exact hj
      · cases hj)
  obtain ⟨z, hz⟩ : ∃ z : Value, z = .agg #[.int .i64 0, .slice none 0 0] := ⟨_, rfl⟩
  rw [← hz] at hz0
  have hzc : z.cells.size = 2 := by rw [hz]; rfl
  have hrz : ∀ ty, (Builtin.append_ #[45, 3] ty #[.slice (some ⟨g, 0, none⟩) i n, .int .i64 ((n : Int) + 1 - (i : Int))]).run Tryz.prog w =
      .ok (.slice (some ⟨w.heap.size, 0, none⟩) (n + 1) (grownCap w (n + 1) n 50)) (w.drew.alloc (.cells ((cur.toList.take (i * 2)).toArray ++ Builtin.zeroCells z.cells (n + 1 - i) ++ Builtin.zeroCells z.cells (grownCap w (n + 1) n 50 - (n + 1))) 50)) := fun ty => by
    have h := Lib.run_append_grow_zeros w 45 3 ty 50 i0 z .i64 .i64 Tryz.underlying45 Tryz.underlying3 hi0 hz0 (some ⟨g, 0, none⟩) i n (cur.toList.take (i * 2)) hold (n + 1 - i) (by omega) (by omega) (by omega) (by omega) (by rw [hzb]; omega) (by rw [hzb, hik]; exact growslice_fits (by omega) (by omega))
    rw [hik] at h
    rw [hkk]
    exact h
  obtain ⟨G, hG⟩ : ∃ G, G = grownCap w (n + 1) n 50 := ⟨_, rfl⟩
  have hGn : n + 1 ≤ G := by rw [hG]; exact grownCap_ge w _ _ _
  have hGm : G ≤ maxLen := by rw [hG]; exact grownCap_le_maxLen w (n + 1) n 50 (by unfold maxLen; omega)
  obtain ⟨ROW, hROW⟩ : ∃ ROW : Array Value, ROW = (cur.toList.take (i * 2)).toArray ++ Builtin.zeroCells z.cells (n + 1 - i) ++ Builtin.zeroCells z.cells (grownCap w (n + 1) n 50 - (n + 1)) := ⟨_, rfl⟩
  rw [← hROW, ← hG] at hrz
  have hzl : ∀ k, (Builtin.zeroCells z.cells k).size = k * 2 := by
    intro k
    simp [Builtin.zeroCells, hzc]
  have hRs : ROW.size = G * 2 := by
    rw [hROW]
    simp only [Array.size_append, hzl, List.size_toArray, htl, ← hG]
    omega
  have hRt : ROW.toList.take (i * 2) = cur.toList.take (i * 2) := by
    rw [hROW]
    simp only [Array.toList_append, List.append_assoc]
    rw [List.take_left' htl]
  obtain ⟨W1, hW1⟩ : ∃ W1, w.drew.alloc (.cells ROW 50) = W1 := ⟨_, rfl⟩
  rw [hW1] at hrz
  have hN1 : W1.heap[w.heap.size]? = some (.cells ROW 50 (0, 0)) := by rw [← hW1]; exact heap_alloc_new w.drew _
  have k1 : Kp [] w W1 := by rw [← hW1]; exact Kp.alloc (a := w) (w := w.drew) ⟨rfl, rfl, rfl, Nat.le_refl _, fun _ _ _ => rfl⟩ _
  have hv1 := k1.heap hv (by simp)
  have hg1 := k1.heap hg (by simp)
  have hcpA : ∀ ty dc, (Builtin.copy_ #[45, 45] ty #[.slice (some ⟨w.heap.size, i * 2, none⟩) (n + 1 - i) dc, .slice (some ⟨vb, 0, none⟩) 1 1]).run Tryz.prog W1 = .ok (goInt (Nat.min 1 (n + 1 - i))) (W1.setCells w.heap.size (i * 2) [x0, x1]) := fun ty dc =>
    run_copyK W1 45 45 ty 50 w.heap.size (i * 2) (n + 1 - i) dc ⟨vb, 0, none⟩ 1 1 2 [x0, x1] Tryz.underlying45 size226 (by simp only [Nat.min_def]; rw [if_pos (by omega)]; rfl)
      (fun j u hj => by rw [Addr.add_lit, (cells_at hv1 _).1]; simpa using hj)
      (fun j hj => by
        simp at hj
        rw [(cells_at hN1 _).1, List.getElem?_eq_getElem (by rw [Array.length_toList, hRs]; omega)]
        rfl) (fun j hj => (cells_at hN1 _).2) h1
  obtain ⟨W2, hW2⟩ : ∃ W2, W1.setCells w.heap.size (i * 2) [x0, x1] = W2 := ⟨_, rfl⟩
  rw [hW2] at hcpA
  have hN2 : W2.heap[w.heap.size]? = some (.cells (putA ROW (i * 2) [x0, x1]) 50 (0, 0)) := by rw [← hW2]; exact heap_setCells_same [x0, x1] W1 w.heap.size _ ROW 50 hN1
  have k2 : Kp [w.heap.size] W1 W2 := by rw [← hW2]; exact kp_setCells _ W1 _ _
  have hg2 := k2.heap hg1 (by simp; omega)
  have hcpB : ∀ ty dc sc, (Builtin.copy_ #[45, 45] ty #[.slice (some ⟨w.heap.size, (i + 1) * 2, none⟩) (n - i) dc, .slice (some ⟨g, i * 2, none⟩) (n - i) sc]).run Tryz.prog W2.drew = .ok (goInt (Nat.min (n - i) (n - i))) (W2.drew.setCells w.heap.size ((i + 1) * 2) (cur.toList.drop (i * 2))) := fun ty dc sc =>
    run_copyK W2.drew 45 45 ty 50 w.heap.size ((i + 1) * 2) (n - i) dc ⟨g, i * 2, none⟩ (n - i) sc 2 (cur.toList.drop (i * 2)) Tryz.underlying45 size226 (by rw [List.length_drop, Array.length_toList, hcs]; simp only [Nat.min_def]; split <;> omega)
      (fun j u hj => by
        rw [Addr.add_lit]
        show W2.cell? _ = _
        rw [(cells_at hg2 _).1]
        rw [List.getElem?_drop] at hj; exact hj)
      (fun j hj => by
        rw [List.length_drop, Array.length_toList, hcs] at hj
        show (W2.cell? _).isSome = true
        rw [(cells_at hN2 _).1, List.getElem?_eq_getElem (by rw [Array.length_toList, putA_size, hRs]; omega)]
        rfl) (fun j hj => (cells_at hN2 _).2) (fun u hu => h1c u (List.mem_of_mem_drop hu))
  obtain ⟨W3, hW3⟩ : ∃ W3, W2.drew.setCells w.heap.size ((i + 1) * 2) (cur.toList.drop (i * 2)) = W3 := ⟨_, rfl⟩
  rw [hW3] at hcpB
  have hN3 : W3.heap[w.heap.size]? = some (.cells (putA (putA ROW (i * 2) [x0, x1]) ((i + 1) * 2) (cur.toList.drop (i * 2))) 50 (0, 0)) := by rw [← hW3]; exact heap_setCells_same _ W2.drew w.heap.size _ _ 50 hN2
  have k3 : Kp [w.heap.size] W2 W3 := by rw [← hW3]; exact Kp.next (b := W2.drew) ⟨rfl, rfl, rfl, Nat.le_refl _, fun _ _ _ => rfl⟩ (kp_setCells _ W2.drew _ _)
  have kf : Kp [] w W3 := k1.trans (k2.next k3) (fun x hx => by simp at hx; subst hx; exact .inr (Nat.le_refl _))
  have hdl : (cur.toList.drop (i * 2)).length = (n - i) * 2 := by rw [List.length_drop, Array.length_toList, hcs]; omega
  have hlist : (putA (putA ROW (i * 2) [x0, x1]) ((i + 1) * 2) (cur.toList.drop (i * 2))).toList.take ((n + 1) * 2) = cur.toList.take (i * 2) ++ [x0, x1] ++ cur.toList.drop (i * 2) := by
    have e1 := putA_list [x0, x1] ROW (i * 2) (by simp; rw [hRs]; omega)
    rw [putA_list _ _ _ (by rw [putA_size, hRs, hdl]; omega), e1, hRt]
    have e2 : (cur.toList.take (i * 2) ++ [x0, x1] ++ ROW.toList.drop (i * 2 + [x0, x1].length)).take ((i + 1) * 2) = cur.toList.take (i * 2) ++ [x0, x1] := by
      rw [List.take_left']
      simp only [List.length_append, htl, List.length_cons, List.length_nil]; omega
    rw [e2, List.take_left']
    simp only [List.length_append, htl, hdl, List.length_cons, List.length_nil]; omega
  have hfin : Hid (∃ (G' : Nat) (row : Array Value), G' = G ∧ n + 1 ≤ G' ∧ G' ≤ maxLen ∧ row.size = G' * 2 ∧ W3.heap[w.heap.size]? = some (.cells row 50 (0, 0)) ∧ row.toList.take ((n + 1) * 2) = cur.toList.take (i * 2) ++ [x0, x1] ++ cur.toList.drop (i * 2)) :=
    ⟨G, _, rfl, hGn, hGm, by rw [putA_size, putA_size, hRs], hN3, hlist⟩
  have hGi : ¬ (G = i) := by omega
  have hGim : ¬ (G = i + 1) := by omega
  have hci : ¬ (n = i) := by omega
  have hw1 : IntKind.i64.wrap ((i : Int) + 1) = (i : Int) + 1 := by rw [IntKind.wrap_i64]; omega
  have hb1 : (0 : Int) ≤ (i : Int) + 1 := by omega
  have hin : i ≤ n := by omega
  have htn : ((i : Int) + 1).toNat = i + 1 := by omega
  have hb3 : (i : Int) ≤ (n : Int) := by omega
  have hG63 : G ≤ 9223372036854775807 := by unfold maxLen at hGm; omega
  clear hkk hik hold hROW hG hlist hN1 hN2 hN3 k1 k2 k3 hv1 hg1 hg2 hcl hvl hRs hRt hGm hzl hdl htl hz hz0 hzc
  go_enter Tryz.func150, Tryz.ntmps150
  go_wp2_with (first
    | (at_builtin; refine Lib.wpList_append_run _ rfl _ _ _ _ rfl _ _ rfl rfl _ _ (hrz _) ?_)
    | (at_builtin; refine wpList_copy_runI _ rfl _ _ 45 45 rfl _ _ rfl rfl (hcpA _ _) ?_))
  go_region_law ((refine step_copy_runI rfl _ _ 45 45 rfl _ _ (by simp [Act.eval, Act.put]) (by simp [Act.eval, Act.put]) (hcpB _ _ _) ?_))
  go_wp2_with fail
  go_ret
  obtain ⟨G', row, rfl, f1, f2, f3, f4, f5⟩ := hfin.out
  exact ⟨G', row, rfl, f1, f2, f3, f4, f5, kf⟩

/-- slices.Insert of one text. -/
theorem ginsert_any (B n i vb : Nat) (v x0 x1 : Value) (xs : List Value) (w : World) (h : w.ownsRow B 50 2 v n xs) (hi : i ≤ n) (hn : n ≤ 1000) (hB : B ≤ w.heap.size) (hv : w.heap[vb]? = some (.cells #[x0, x1] 50 (0, 0))) (hvb : v.ownBlock ≠ some vb) (h1 : ∀ u ∈ [x0, x1], u.oneCell' = true) (h1c : ∀ u ∈ xs, u.oneCell' = true) :
    Calls Tryz.prog 150 #[v, .int .i64 (i : Int), .slice (some ⟨vb, 0, none⟩) 1 1] w fun e w' => ∃ v', e = .returned v' ∧ w'.ownsRow B 50 2 v' (n + 1) (xs.take (i * 2) ++ [x0, x1] ++ xs.drop (i * 2)) ∧ (v'.ownBlock = v.ownBlock ∨ v'.ownBlock = some w.heap.size) ∧ Kp v.ownBlock.toList w w' := by
  have hxl := h.1
  by_cases hin : i = n
  · subst hin
    refine (ginsert_end B i vb v x0 x1 xs w h hn hB hv h1).mono ?_
    rintro e w' ⟨v', rfl, ho, hat, k⟩
    refine ⟨v', rfl, ?_, hat, k⟩
    rw [List.take_of_length_le (by omega), List.drop_of_length_le (by omega), List.append_nil]
    exact ho
  · rcases h.2 with ⟨_, h0⟩ | ⟨g, cap, cur, rfl, hbg, hg, hnc, hcm, hcs, ht⟩
    · omega
    · have hob : (Value.slice (some ⟨g, 0, none⟩) n cap).ownBlock = some g := rfl
      rw [hob] at hvb ⊢
      by_cases hroom : n + 1 ≤ cap
      · refine (ginsert_shift n cap i g vb x0 x1 cur w hg hcs (by omega) hroom hn (by unfold maxLen at hcm; omega) hv (fun e => hvb (by rw [e])) h1 (by rw [ht]; exact h1c)).mono ?_
        rintro e w' ⟨rfl, hg', k⟩
        refine ⟨_, rfl, ⟨?_, .inr ⟨g, cap, _, rfl, hbg, hg', hroom, hcm, by rw [putA_size, putA_size, hcs], ?_⟩⟩, .inl rfl, by simpa using k⟩
        · simp [hxl]; omega
        · have hdl : ((cur.toList.take (n * 2)).drop (i * 2)).length = (n - i) * 2 := by rw [List.length_drop, List.length_take, Array.length_toList, hcs]; omega
          rw [putA_list _ _ _ (by rw [putA_size, hcs]; simp; omega), putA_list _ _ _ (by rw [hdl, hcs]; omega), ht]
          have hcl : cur.toList.length = cap * 2 := by rw [Array.length_toList, hcs]
          have htx : cur.toList.take ((i + 1) * 2) = xs.take ((i + 1) * 2) := by rw [← ht, List.take_take, Nat.min_eq_left (by omega)]
          have htl : (xs.take ((i + 1) * 2)).length = (i + 1) * 2 := by rw [List.length_take]; omega
          have hd2 : (xs.drop (i * 2)).length = (n - i) * 2 := by rw [List.length_drop]; omega
          rw [htx]
          have e1 : (xs.take ((i + 1) * 2) ++ xs.drop (i * 2) ++ cur.toList.drop ((i + 1) * 2 + (xs.drop (i * 2)).length)).take (i * 2) = xs.take (i * 2) := by
            rw [List.append_assoc, List.take_append_of_le_length (by rw [htl]; omega), List.take_take, Nat.min_eq_left (by omega)]
          have e2 : (xs.take ((i + 1) * 2) ++ xs.drop (i * 2) ++ cur.toList.drop ((i + 1) * 2 + (xs.drop (i * 2)).length)).drop (i * 2 + [x0, x1].length) = xs.drop (i * 2) ++ cur.toList.drop ((i + 1) * 2 + (xs.drop (i * 2)).length) := by
            rw [List.append_assoc, List.drop_left']
            rw [htl]; simp; omega
          rw [e1, e2, ← List.append_assoc, List.take_left']
          simp [hd2, hxl]; omega
      · have hcn : cap = n := by omega
        subst hcn
        have hall : cur.toList = xs := by rw [← ht, List.take_of_length_le (by rw [Array.length_toList, hcs]; exact Nat.le_refl _)]
        refine (ginsert_grow cap i g vb x0 x1 cur w hg hcs (by omega) hn hv h1 (by rw [hall]; exact h1c)).mono ?_
        rintro e w' ⟨G, row, rfl, f1, f2, f3, f4, f5, k⟩
        refine ⟨_, rfl, ⟨?_, .inr ⟨w.heap.size, G, row, rfl, hB, f4, f1, f2, f3, ?_⟩⟩, .inr rfl, k.mono (by simp)⟩
        · simp [hxl]; omega
        · rw [f5, hall]
def zText : List Value := [.int .i64 0, .slice none 0 0]
theorem zero226 (w : World) : (zeroValue 50).run Tryz.prog w = .ok (.agg #[.int .i64 0, .slice none 0 0]) w := by kernel_rfl
theorem run_clear1 (w : World) (ty : TypeId) (b o c : Nat) (hc : ∀ j, j < 2 → (w.cell? ⟨b, o + j, none⟩).isSome = true) (hf : ∀ j, j < 2 → w.frozen? ⟨b, o + j, none⟩ = false) :
    (Builtin.clear_ #[45] ty #[.slice (some ⟨b, o, none⟩) 1 c]).run Tryz.prog w = .ok (.tuple #[]) (w.setCells b o zText) := by
  have hzc : (Builtin.zeroCells (Value.agg #[.int .i64 0, .slice none 0 0]).cells 1).toList = zText := by
    simp [Builtin.zeroCells, Value.cells, zText]
    rfl
  have hst := run_storeCells_cells (P := Tryz.prog) b o zText 0 w (by simpa [zText] using hc) (by simpa [zText] using hf) (by simp [zText, Value.oneCell'])
  simp only [Nat.add_zero] at hst
  have hst' : ∀ l, l = zText → (storeCells ⟨b, o, none⟩ l).run Tryz.prog w = .ok () (w.setCells b o zText) := by
    rintro l rfl
    simpa using hst
  simp [Builtin.clear_, run_underlying Tryz.underlying45, zero226, hst' _ hzc]

set_option maxHeartbeats 4000000 in
/-- slices.Delete of one text. -/
theorem gdelete_cells (n c i g : Nat) (cur : Array Value) (w : World) (hg : w.heap[g]? = some (.cells cur 50 (0, 0))) (hcs : cur.size = c * 2) (hi : i < n) (hnc : n ≤ c) (hn : n ≤ 1000) (hc63 : c ≤ 9223372036854775807) (h1c : ∀ u ∈ cur.toList.take (n * 2), u.oneCell' = true) :
    Calls Tryz.prog 149 #[.slice (some ⟨g, 0, none⟩) n c, .int .i64 (i : Int), .int .i64 ((i : Int) + 1)] w fun e w' => e = .returned (.slice (some ⟨g, 0, none⟩) (n - 1) c) ∧
      w'.heap[g]? = some (.cells (putA (putA cur (i * 2) ((cur.toList.take (n * 2)).drop ((i + 1) * 2))) ((n - 1) * 2) zText) 50 (0, 0)) ∧ Kp [g] w w' := by
  obtain ⟨i0, hi0, hz0, hz1, hz2⟩ := info_parts info52
  have hcl := fun j => cells_at hg j
  obtain ⟨news, hnews⟩ : ∃ news, (cur.toList.take (n * 2)).drop ((i + 1) * 2) = news := ⟨_, rfl⟩
  have hlen : news.length = (n - (i + 1)) * 2 := by rw [← hnews, List.length_drop, List.length_take, Array.length_toList, hcs]; omega
  have hget : ∀ j u, news[j]? = some u → w.cell? ⟨g, (i + 1) * 2 + j, none⟩ = some u := by
    intro j u hj
    rw [(hcl _).1]
    rw [← hnews, List.getElem?_drop, List.getElem?_take] at hj
    split at hj
    · exact hj
    · cases hj
  obtain ⟨A, hA, hsrc⟩ : ∃ A : Addr, (if c = i + 1 then some (⟨g, 0, none⟩ : Addr) else some ⟨g, (i + 1) * 2, none⟩) = some A ∧ Hid (∀ t u, news[t]? = some u → w.drew.cell? (A.add t) = some u) := by
    by_cases h : c = i + 1
    · refine ⟨⟨g, 0, none⟩, by simp [h], fun t u hu => ?_⟩
      have h0 : news.length = 0 := by rw [hlen]; omega
      rw [List.length_eq_zero_iff.1 h0] at hu
      simp at hu
    · refine ⟨⟨g, (i + 1) * 2, none⟩, by simp [h], fun t u hu => ?_⟩
      rw [Addr.add_lit]
      exact hget t u hu
  have s1 : Hid (news.length = (n - (i + 1)) * 2) := hlen
  have s2 : Hid (∀ u ∈ news, u.oneCell' = true) := fun u hu => h1c u (by rw [← hnews] at hu; exact List.mem_of_mem_drop hu)
  have s3 : Hid (∀ t, t < news.length → (w.drew.cell? ⟨g, 0 + i * 2 + t, none⟩).isSome = true ∧ w.drew.frozen? ⟨g, 0 + i * 2 + t, none⟩ = false) := by
    intro t ht
    rw [hlen] at ht
    refine ⟨?_, (hcl _).2⟩
    show (w.cell? _).isSome = true
    rw [(hcl _).1, List.getElem?_eq_getElem (by rw [Array.length_toList, hcs]; omega)]
    rfl
  obtain ⟨W1, hW1⟩ : ∃ W1, w.drew.setCells g (0 + i * 2) news = W1 := ⟨_, rfl⟩
  have hg1 : W1.heap[g]? = some (.cells (putA cur (i * 2) news) 50 (0, 0)) := by rw [← hW1, Nat.zero_add]; exact heap_setCells_same news w.drew g _ cur 50 hg
  have k1 : Kp [g] w W1 := by rw [← hW1]; exact Kp.next (b := w.drew) ⟨rfl, rfl, rfl, Nat.le_refl _, fun _ _ _ => rfl⟩ (kp_setCells news w.drew g _)
  have hcl1 : ∀ ty cc, (Builtin.clear_ #[45] ty #[.slice (some ⟨g, (n - 1) * 2, none⟩) 1 cc]).run Tryz.prog W1 = .ok (.tuple #[]) (W1.setCells g ((n - 1) * 2) zText) := fun ty cc =>
    run_clear1 W1 ty g _ cc (fun j hj => by
      rw [(cells_at hg1 _).1, List.getElem?_eq_getElem (by rw [Array.length_toList, putA_size, hcs]; omega)]; rfl) (fun j hj => (cells_at hg1 _).2)
  have hg2 := heap_setCells_same zText W1 g ((n - 1) * 2) _ 50 hg1
  have k2 : Kp [g] w (W1.setCells g ((n - 1) * 2) zText) := k1.next (kp_setCells _ W1 g _)
  obtain ⟨W2, hW2⟩ : ∃ W2, W1.setCells g ((n - 1) * 2) zText = W2 := ⟨_, rfl⟩
  rw [hW2] at hcl1 hg2 k2
  have HG2 := hide hg2
  have HW1 := hide hW1
  have hic : i ≤ c := by omega
  have hjc : i + 1 ≤ c := by omega
  have hji : ¬ ((i : Int) = (i : Int) + 1) := by omega
  have htn : ((i : Int) + 1).toNat = i + 1 := by omega
  have hb1 : (0 : Int) ≤ (i : Int) + 1 := by omega
  have hsum : i + (n - (i + 1)) = n - 1 := by omega
  have hin : (i : Int) + 1 ≤ (n : Int) := by omega
  have hl1 : n - (n - 1) = 1 := by omega
  have hcn : ¬ (c = n - 1) := by omega
  have hnn : n - 1 ≤ n := by omega
  rw [hnews]
  clear hg1 hg2 hget hcl hnews hlen hg hW1
  go_enter Tryz.func149, Tryz.ntmps149
  go_wp2_with fail
  go_region_law ((refine step_append_room rfl (.tmp 22) (.tmp 25) 45 rfl 50 i0 2 Tryz.underlying45 hi0 hz1 g 0 i c (by simp [Act.eval, Act.put]) A (n - (i + 1)) (c - (i + 1)) news (by simp [Act.eval, Act.put, hA]) s1.out hsrc.out s2.out (by omega) s3.out ?_; rw [HW1.out]))
  go_wp2_with (simp only [hcl1])
  go_ret
  exact ⟨rfl, HG2.out, k2⟩
theorem gdelete_any (B n i : Nat) (v : Value) (xs : List Value) (w : World) (h : w.ownsRow B 50 2 v n xs) (hi : i < n) (hn : n ≤ 1000) (h1c : ∀ u ∈ xs, u.oneCell' = true) :
    Calls Tryz.prog 149 #[v, .int .i64 (i : Int), .int .i64 ((i : Int) + 1)] w fun e w' => ∃ v', e = .returned v' ∧ w'.ownsRow B 50 2 v' (n - 1) (xs.take (i * 2) ++ xs.drop ((i + 1) * 2)) ∧ v'.ownBlock = v.ownBlock ∧ Kp v.ownBlock.toList w w' := by
  have hxl := h.1
  rcases h.2 with ⟨_, h0⟩ | ⟨g, cap, cur, rfl, hbg, hg, hnc, hcm, hcs, ht⟩
  · omega
  · refine (gdelete_cells n cap i g cur w hg hcs hi hnc hn (by unfold maxLen at hcm; omega) (by rw [ht]; exact h1c)).mono ?_
    rintro e w' ⟨rfl, hg', k⟩
    refine ⟨_, rfl, ⟨?_, .inr ⟨g, cap, _, rfl, hbg, hg', by omega, hcm, by rw [putA_size, putA_size, hcs], ?_⟩⟩, rfl, k⟩
    · simp [hxl]; omega
    · rw [ht]
      have hdl : (xs.drop ((i + 1) * 2)).length = (n - (i + 1)) * 2 := by rw [List.length_drop]; omega
      have hcl : cur.toList.length = cap * 2 := by rw [Array.length_toList, hcs]
      rw [putA_list _ _ _ (by rw [putA_size, hcs]; simp [zText]; omega), putA_list _ _ _ (by rw [hdl, hcs]; omega)]
      have htx : cur.toList.take (i * 2) = xs.take (i * 2) := by rw [← ht, List.take_take, Nat.min_eq_left (by omega)]
      have htl : (xs.take (i * 2)).length = i * 2 := by rw [List.length_take]; omega
      rw [htx]
      have e1 : (xs.take (i * 2) ++ xs.drop ((i + 1) * 2) ++ cur.toList.drop (i * 2 + (xs.drop ((i + 1) * 2)).length)).take ((n - 1) * 2) = xs.take (i * 2) ++ xs.drop ((i + 1) * 2) := by
        rw [List.take_left']
        simp only [List.length_append, htl, hdl]; omega
      rw [e1, List.append_assoc, List.take_left']
      simp only [List.length_append, htl, hdl]; omega
end Go.Proofs.YtnffagpdnklnkaaGreatDoor.Pak
