import Derived.Test.YtnffagpdnklnkaaGreatDoorV05
import Derived.Test.YtnffagpdnklnkaaGreatDoorV02
import Derived.Test.YtnffagpdnklnkaaGreatDoorV04
import Derived.Deep.RegionLaw
import Derived.Deep.RegionHeld3
import Derived.Stop.BytesEq
set_option linter.unusedVariables false
set_option linter.unusedSimpArgs false
set_option maxRecDepth 8000
namespace Go.Proofs.YtnffagpdnklnkaaGreatDoor.Pak
open Go.RowKit Go.Proofs.YtnffagpdnklnkaaGreatDoor Go.Proofs.YtnffagpdnklnkaaGreatDoor.Spl SiftM
/-- The map says these rows. -/
structure RowsAre (f : Nat → Nat → Option Nat) (rows : List (List Nat)) (nt : Nat) : Prop where
  at' : ∀ d (h : d < rows.length) i (hi : i < rows[d].length), f d i = some rows[d][i]
  stop : ∀ d (h : d < rows.length), f d rows[d].length = none
  small : ∀ d (h : d < rows.length), rows[d].length ≤ 1000
  lt : ∀ d (h : d < rows.length), ∀ x ∈ rows[d], x < nt
def wordsOf (terms : List (List UInt8)) (r : List Nat) : List (List UInt8) := r.map fun i => terms.getD i []

theorem far_block {w w3 : World} {o o' : Obj} {L : Nat} {row : Option Nat} (hL : w.heap[L]? = some o) (hg : ((w.alloc o').drew).grownBy w3 row) (hne : row ≠ some L) : w3.heap[L]? = some o := by
  rw [hg.block L (by have := heap_lt hL; simp; omega) (fun e => hne e.symm)]
  show (w.alloc o').heap[L]? = _
  rw [Below.heap_alloc _ _ _ (heap_lt hL)]; exact hL

theorem pr_cells {w : World} {X t : Nat} {a b : Value} (h : w.heap[X]? = some (.cells #[a, b] t (0, 0))) : w.cell? ⟨X, 0, none⟩ = some a ∧ w.cell? ⟨X, 1, none⟩ = some b ∧ w.frozen? ⟨X, 0, none⟩ = false ∧ w.frozen? ⟨X, 1, none⟩ = false := by
  refine ⟨?_, ?_, ?_, ?_⟩ <;> simp [World.cell?, World.frozen?, h]

set_option maxHeartbeats 2000000 in
set_option maxRecDepth 100000 in
theorem text_any (M c B d : Nat) (f : Nat → Nat → Option Nat) (iv tv : Value) (ids : List Nat) (terms : List (List UInt8)) (rows : List (List Nat)) (w : World) (hm : MapIs w M c f) (hi : w.ownsRow B 3 1 iv ids.length (intV ids)) (ht : w.ownsRow B 9 1 tv terms.length (strV terms)) (hr : RowsAre f rows terms.length) (hlen : rows.length = ids.length) (hn : ids.length ≤ 60) (hnt : terms.length ≤ 100000) (hdi : d < ids.length) (hdr : d < rows.length) :
    Calls Tryz.prog 103 #[.agg #[iv, tv, .map (some M)], .int .i64 d] w fun e w' => ∃ v, e = .returned (.agg #[.int .i64 (ids[d] : Int), v]) ∧ w'.ownsRow w.heap.size 9 1 v (wordsOf terms rows[d]).length (strV (wordsOf terms rows[d])) ∧ Kp [] w w' := by
  obtain ⟨i0, hii, hz0, hz1, hz2⟩ := info_parts Tryz.info9
  obtain ⟨ai, ci, rfl, hai⟩ := owns_forms hi
  obtain ⟨at', ct, rfl, hat⟩ := owns_forms ht
  obtain ⟨n, hnE⟩ : ∃ n, ids.length = n := ⟨_, rfl⟩
  obtain ⟨nt, hntE⟩ : ∃ nt, terms.length = nt := ⟨_, rfl⟩
  have hdn : d < n := by omega
  obtain ⟨gi, rfl⟩ := hai (by omega)
  have hci := ints_cells hi rfl d hdi
  obtain ⟨id, hid⟩ : ∃ id, ids[d] = id := ⟨_, rfl⟩
  rw [hid] at hci ⊢
  rw [hnE] at hn hai hi ⊢
  have hrl := hr.lt d hdr
  have hrs := hr.small d hdr
  have hra := hr.at' d hdr
  have hrst := hr.stop d hdr
  obtain ⟨r, hrE⟩ : ∃ r, rows[d] = r := ⟨_, rfl⟩
  rw [hrE] at hrl hrs hra hrst ⊢
  rw [hntE] at hnt hat ht hrl ⊢
  have hgil := World.block_lt_of_cell? w _ hci
  have HM := hide hm
  have HI := hide hi
  have HT := hide ht
  have HRL := hide hrl
  have HntE := hide hntE
  have HRA := hide hra
  have HRST := hide hrst
  clear hm hi ht hr hlen hnE hntE hrl hrst hra hrE hid
  go_enter Tryz.func103, Tryz.ntmps103
  go_wp2_with fail
  obtain ⟨W, hW⟩ : ∃ W, ((w.alloc (.cells #[.slice (some ⟨gi, 0, none⟩) n ci, .slice at' nt ct, .map (some M)] 105)).alloc (.cells #[.int .i64 0, .slice none 0 0] 50)).alloc (.cells #[.int .i64 (id : Int), .slice none 0 0] 50) = W := ⟨_, rfl⟩
  rw [hW]
  have k0 : Kp [] w W := by rw [← hW]; exact (((Kp.refl _ _).alloc _).alloc _).alloc _
  have hT0 : W.heap[w.heap.size]? = some (.cells #[.slice (some ⟨gi, 0, none⟩) n ci, .slice at' nt ct, .map (some M)] 105 (0, 0)) := by
    rw [← hW, Below.heap_alloc _ _ _ (by simp; omega), Below.heap_alloc _ _ _ (by simp)]; exact heap_alloc_new w _
  have hR0 : W.heap[w.heap.size + 1]? = some (.cells #[.int .i64 0, .slice none 0 0] 50 (0, 0)) := by
    rw [← hW, Below.heap_alloc _ _ _ (by simp)]
    have := heap_alloc_new (w.alloc (.cells #[.slice (some ⟨gi, 0, none⟩) n ci, .slice at' nt ct, .map (some M)] 105)) (.cells #[.int .i64 0, .slice none 0 0] 50)
    simpa using this
  have hX0 : W.heap[w.heap.size + 2]? = some (.cells #[.int .i64 (id : Int), .slice none 0 0] 50 (0, 0)) := by
    rw [← hW]
    have := heap_alloc_new ((w.alloc (.cells #[.slice (some ⟨gi, 0, none⟩) n ci, .slice at' nt ct, .map (some M)] 105)).alloc (.cells #[.int .i64 0, .slice none 0 0] 50)) (.cells #[.int .i64 (id : Int), .slice none 0 0] 50)
    simpa using this
  have hsz0 : w.heap.size + 3 ≤ W.heap.size := by rw [← hW]; simp
  have hrow := row_any M c d f (.slice (some ⟨gi, 0, none⟩) n ci) (.slice at' nt ct) r W (HM.out.kp k0 (by simp)) HRA.out HRST.out hrs (by omega) rfl rfl
  refine hrow.mono ?_
  rintro e wi ⟨rv, rfl, hrv, hki⟩
  obtain ⟨ar, cr, rfl, har⟩ := owns_forms hrv
  have hXi := hki.heap hX0 (by simp)
  have hRi := hki.heap hR0 (by simp)
  have hTi := hki.heap hT0 (by simp)
  have hk1i : Kp [] w wi := k0.next hki
  have hti := hk1i.owns HT.out (by simp)
  have hszi := hki.size
  have HXi := hide hXi
  have HRi := hide hRi
  have HTi := hide hTi
  have Hti := hide hti
  have HRV := hide hrv
  have htX : Hid ((Value.slice at' nt ct).ownBlock ≠ some (w.heap.size + 2)) := fun e => by have := (HT.out.lt _ e).2; omega
  have hrX : Hid ((Value.slice ar r.length cr).ownBlock ≠ some (w.heap.size + 2)) := owns_ne hrv hXi (by decide)
  clear hXi hTi hti hrv hci hRi hX0 hR0 hT0 hW hrow
  go_wp2_with fail
  go_loopw [18] (fun kv w2 => ∃ (k : Nat) (a : Option Addr) (cap : Nat), k ≤ r.length ∧ kv = .int .i64 k ∧ w2.ownsRow wi.heap.size 9 1 (.slice a k cap) k (strV ((wordsOf terms r).take k)) ∧ w2.heap[w.heap.size + 2]? = some (.cells #[.int .i64 (id : Int), .slice a k cap] 50 (0, 0)) ∧ Kp [w.heap.size + 2] wi w2) (fun kv _ => r.length - (intOf kv).toNat)
  case atStart => exact ⟨0, none, 0, by omega, rfl, World.ownsRow_nil _ _ _ _, HXi.out, Kp.refl _ _⟩
  case round =>
    clear HXi
    obtain ⟨k, a, cap, hk, rfl, hown, hX2, hk2⟩ := hrel
    have hT2 := hk2.heap HTi.out (by simp)
    have hR2 := hk2.heap HRi.out (by simp)
    obtain ⟨b0, b1, b2, _, _, _⟩ := tb_cells hT2
    obtain ⟨x0, x1, y0, y1⟩ := pr_cells hX2
    by_cases hlt2 : k < r.length
    · obtain ⟨gr, rfl⟩ := har (by omega)
      have hrv2 := hk2.owns HRV.out (fun g hg hx => by
        simp at hx; subst hx
        exact hrX.out hg)
      have hcr := ints_cells hrv2 rfl k hlt2
      have hxlt := HRL.out r[k] (List.getElem_mem hlt2)
      obtain ⟨gt, rfl⟩ := hat (by omega)
      have htv2 := hk2.owns Hti.out (fun g hg hx => by simp at hx; subst hx; exact htX.out hg)
      have hct := strs_cells htv2 HntE.out r[k] (by rw [HntE.out]; exact hxlt)
      have hgtl := World.block_lt_of_cell? wr _ hct
      have hgtX : gt ≠ w.heap.size + 2 := fun e => htX.out (by simp [Value.ownBlock, e])
      have hwk : Hid ((wordsOf terms r).take (k + 1) = (wordsOf terms r).take k ++ [terms.getD r[k] []]) := by
        show _ = _
        rw [take_snocL _ k (by simp [wordsOf]; exact hlt2)]
        simp [wordsOf]
      have hxT : r[k] < terms.length := by rw [HntE.out]; exact hxlt
      have htg : terms.getD r[k] [] = terms[r[k]] := by rw [List.getD_eq_getElem?_getD, List.getElem?_eq_getElem]; rfl
      rw [htg] at hwk
      obtain ⟨x, hx⟩ : ∃ x, r[k] = x := ⟨_, rfl⟩
      obtain ⟨tm, htm⟩ : ∃ tm, terms[r[k]] = tm := ⟨_, rfl⟩
      rw [htm] at hct hwk
      rw [hx] at hcr hct hxlt
      have hXn := heap_lt hX2
      have hTn := heap_lt hT2
      have HO := hide hown
      have HX2 := hide hX2
      have hvX := hide (owns_ne hown hX2 (by decide))
      have hvlt : ∀ g, (Value.slice a k cap).ownBlock = some g → wi.heap.size ≤ g := fun g hg => (hown.lt g hg).1
      have hszi2 := hk2.size
      have Hvlt := hide hvlt
      clear hown hX2 hT2 htv2 hrv2 hx htm htg hvlt hxT hR2
      have i3 : (0 : Int) ≤ (x : Int) := by omega
      have i4 : (x : Int) < (nt : Int) := by omega
      go_wp2_with fail
      go_region_law
        (refine step_append_lies _ (by rfl) _ _ _ (by rfl) wi.heap.size 9 i0 _ 1 16 Tryz.underlying37 hii hz0 hz1 hz2 rfl (by omega) (.slice a k cap) k (strV ((wordsOf terms r).take k)) (by rfl) ((HO.out.alloc _).drew)
            ⟨wr.heap.size, 0, none⟩ 1 1 [.string ⟨tm.toArray⟩] (by rfl) (by rfl) (World.news_of_block (cs := #[.string ⟨tm.toArray⟩]) (t := 9) (fr := (0, 0)) (heap_alloc_new wr _)) (by simp [Value.oneCell'])
            (by omega) (by unfold maxLen; omega) (by omega) (by simp; omega) (wr.heap.size + 1) (by simp) ?_; intro gg cap' w3 hown3 hgrow hat3 hlt3; have hX3 := far_block HX2.out hgrow hvX.out; have hf3 := (pr_cells hX3).2.2.2; have hc3 := (pr_cells hX3).2.1)
      all_goals
        have k3 : Kp ((w.heap.size + 2) :: (Value.slice a k cap).ownBlock.toList) wr w3 := (((Kp.refl _ wr).alloc _).drewN 1).grown hgrow (fun j hj => .inl (by simp [hj]))
        have kp3 : Kp [w.heap.size + 2] wi (w3.setCell ⟨w.heap.size + 2, 1, none⟩ (.slice (some ⟨gg, 0, none⟩) (k + 1) cap')) := (hk2.trans k3 (by
          intro y hy
          simp only [List.mem_cons] at hy
          rcases hy with rfl | hy
          · left; simp
          · right; exact Hvlt.out y (by simpa using hy))).setCell (.inl (by simp)) _
        have hX4 : (w3.setCell ⟨w.heap.size + 2, 1, none⟩ (.slice (some ⟨gg, 0, none⟩) (k + 1) cap')).heap[w.heap.size + 2]? = some (.cells #[.int .i64 (id : Int), .slice (some ⟨gg, 0, none⟩) (k + 1) cap'] 50 (0, 0)) := by
          rw [heap_setCell_same w3 (w.heap.size + 2) 1 _ 50 _ hX3]
          rfl
        have ho4 : (w3.setCell ⟨w.heap.size + 2, 1, none⟩ (.slice (some ⟨gg, 0, none⟩) (k + 1) cap')).ownsRow wi.heap.size 9 1 (.slice (some ⟨gg, 0, none⟩) (k + 1) cap') (k + 1) (strV ((wordsOf terms r).take (k + 1))) := by
          rw [hwk.out, strV_one]
          refine Kp.owns (S := [w.heap.size + 2]) ((Kp.refl _ _).setCell (.inl (by simp)) _) hown3 (fun g hg hx => ?_)
          simp at hx; subst hx
          exact owns_ne hown3 hX3 (by decide) hg
        have HX4 := hide hX4
        have HO4 := hide ho4
        clear hX4 ho4 hX3 hf3 hc3 x0 x1 y0 y1 b0 b1 b2 hct hcr i3 i4
        go_wp2_with fail
        go_roundw
        case rel => exact ⟨k + 1, _, _, by omega, by go_num, HO4.out, HX4.out, kp3⟩
        case measure => simp [intOf]; omega
    · have ek : k = r.length := by omega
      subst ek
      have HO := hide hown
      have HX2 := hide hX2
      have hsz2 := hk2.size
      obtain ⟨r0, r1, s0, s1⟩ := pr_cells hR2
      have HR2 := hide hR2
      clear hown hX2 hT2 hR2 b0 b1 b2
      go_wp2_with fail
      obtain ⟨W9, hW9⟩ : ∃ W9, (wr.setCell ⟨w.heap.size + 1, 0, none⟩ (.int .i64 (id : Int))).setCell ⟨w.heap.size + 1, 1, none⟩ (.slice a r.length cap) = W9 := ⟨_, rfl⟩
      rw [hW9]
      have hR9 : W9.heap[w.heap.size + 1]? = some (.cells #[.int .i64 (id : Int), .slice a r.length cap] 50 (0, 0)) := by
        rw [← hW9, heap_setCell_same _ (w.heap.size + 1) 1 _ 50 _ (heap_setCell_same wr (w.heap.size + 1) 0 _ 50 _ HR2.out)]; rfl
      obtain ⟨e0, e1, _, _⟩ := pr_cells hR9
      have k9 : Kp [w.heap.size + 1] wr W9 := by rw [← hW9]; exact ((Kp.refl _ _).setCell (.inl (by simp)) _).setCell (.inl (by simp)) _
      have hwl : (wordsOf terms r).length = r.length := by simp [wordsOf]
      have hO2 := HO.out
      rw [List.take_of_length_le (by rw [hwl]; omega)] at hO2
      have hO3 := k9.owns hO2 (fun g hg hx => by
        simp at hx; subst hx
        have := (hO2.lt _ hg).1; omega)
      refine bodyPost_ret (v := .agg #[.int .i64 (id : Int), .slice a r.length cap]) (by simp [results, Tryz.results103, go_sem, e0, e1]) rfl ⟨_, rfl, ?_, ?_⟩
      · rw [hwl]
        refine ⟨hO3.1, ?_⟩
        rcases hO3.2 with h' | ⟨g, cp, cur, e1, hb, rest⟩
        · exact .inl h'
        · exact .inr ⟨g, cp, cur, e1, by omega, rest⟩
      · exact (hk1i.trans hk2 (by simp)).trans k9 (by simp)

theorem partT_c01 {w : World} {L n : Nat} {xs : List (Nat × Value)} (h : w.heap[L]? = some (.cells (partT xs n) 50 (0, 0))) (hl : xs.length < n) : w.cell? ⟨L, xs.length * 2 + 1, none⟩ = some (.slice none 0 0) ∧ w.frozen? ⟨L, xs.length * 2 + 1, none⟩ = false := by
  obtain ⟨d, hd⟩ : ∃ d, n - xs.length = d + 1 := ⟨n - xs.length - 1, by omega⟩
  constructor
  · simp only [World.cell?, h]
    unfold partT
    rw [List.getElem?_toArray, List.getElem?_append_right (by rw [tx2_len]; omega), tx2_len, show xs.length * 2 + 1 - xs.length * 2 = 1 by omega, hd]
    rfl
  · simp [World.frozen?, h]

set_option maxHeartbeats 2000000 in
set_option maxRecDepth 100000 in
theorem texts_any (M c B : Nat) (f : Nat → Nat → Option Nat) (iv tv : Value) (ids : List Nat) (terms : List (List UInt8)) (rows : List (List Nat)) (w : World) (hm : MapIs w M c f) (hi : w.ownsRow B 3 1 iv ids.length (intV ids)) (ht : w.ownsRow B 9 1 tv terms.length (strV terms)) (hr : RowsAre f rows terms.length) (hlen : rows.length = ids.length) (hn : ids.length ≤ 60) (hnt : terms.length ≤ 100000) :
    Calls Tryz.prog 64 #[.agg #[iv, tv, .map (some M)]] w fun e w' => ∃ v vs, e = .returned v ∧ TextsIs w' w.heap.size v (ids.zip (rows.map (wordsOf terms))) vs ∧ Kp [] w w' := by
  obtain ⟨i0, hii, hz0, hz1, hz2⟩ := info_parts Tryz.info9
  obtain ⟨ai, ci, rfl, hai⟩ := owns_forms hi
  obtain ⟨at', ct, rfl, hat⟩ := owns_forms ht
  obtain ⟨n, hnE⟩ : ∃ n, ids.length = n := ⟨_, rfl⟩
  obtain ⟨nt, hntE⟩ : ∃ nt, terms.length = nt := ⟨_, rfl⟩
  have hmk := fun w' => make_texts n w' (by omega)
  have HM := hide hm
  have HI := hide hi
  have HT := hide ht
  have HR := hide hr
  have Hlen := hide hlen
  have HnE := hide hnE
  have HntE := hide hntE
  rw [hnE] at hn hai HI ⊢
  rw [hntE] at hnt hat HT HR ⊢
  clear hm hi ht hr hlen hnE hntE
  go_enter Tryz.func64, Tryz.ntmps64
  go_wp2_with fail
  obtain ⟨W, hW⟩ : ∃ W, (w.alloc (.cells #[.slice ai n ci, .slice at' nt ct, .map (some M)] 105)).alloc (.cells (partT [] n) 50) = W := ⟨_, rfl⟩
  rw [hW]
  have k0 : Kp [] w W := by rw [← hW]; exact ((Kp.refl _ _).alloc _).alloc _
  have hT0 : W.heap[w.heap.size]? = some (.cells #[.slice ai n ci, .slice at' nt ct, .map (some M)] 105 (0, 0)) := by
    rw [← hW, Below.heap_alloc _ _ _ (by simp)]; exact heap_alloc_new w _
  have hL0 : W.heap[w.heap.size + 1]? = some (.cells (partT [] n) 50 (0, 0)) := by
    rw [← hW]
    have := heap_alloc_new (w.alloc (.cells #[.slice ai n ci, .slice at' nt ct, .map (some M)] 105)) (.cells (partT [] n) 50)
    simpa using this
  have hsz0 : W.heap.size = w.heap.size + 2 := by rw [← hW]; simp
  have HT0 := hide hT0
  have HL0 := hide hL0
  clear hT0 hL0 hW hmk
  go_loopw [11] (fun dv wr => ∃ (d : Nat) (vs : List Value), d ≤ n ∧ dv = .int .i64 d ∧ vs.length = d ∧ wr.heap[w.heap.size + 1]? = some (.cells (partT ((ids.take d).zip vs) n) 50 (0, 0)) ∧ wr.heap[w.heap.size]? = some (.cells #[.slice ai n ci, .slice at' nt ct, .map (some M)] 105 (0, 0))
      ∧ (∀ i (h : i < vs.length) (h2 : i < rows.length), wr.ownsRow w.heap.size 9 1 vs[i] (wordsOf terms rows[i]).length (strV (wordsOf terms rows[i])))
      ∧ (∀ i j (hi : i < vs.length) (hj : j < vs.length), i < j → ∀ g, vs[i].ownBlock = some g → vs[j].ownBlock ≠ some g) ∧ w.heap.size + 2 ≤ wr.heap.size ∧ Kp [] w wr) (fun dv _ => n - (intOf dv).toNat)
  case atStart => exact ⟨0, [], by omega, rfl, rfl, HL0.out, HT0.out, fun i h => by simp at h, fun i j h => by simp at h, by omega, k0⟩
  case round =>
    clear HT0 HL0 k0
    obtain ⟨d, vs, hd, rfl, hvs, hL, hT, heach, hap, hsz, hkp⟩ := hrel
    by_cases hlt : d < n
    · have hdi : d < ids.length := by rw [HnE.out]; exact hlt
      have hdr : d < rows.length := by rw [Hlen.out]; exact hdi
      have hir := hkp.owns HI.out (by simp)
      have htr := hkp.owns HT.out (by simp)
      have hmr := HM.out.kp hkp (by simp)
      have hxl : ((ids.take d).zip vs).length = d := by simp [hvs]; omega
      obtain ⟨b0, b1, b2, _, _, _⟩ := tb_cells hT
      have htx := text_any M c B d f (.slice ai n ci) (.slice at' nt ct) ids terms rows wr hmr (by rw [HnE.out]; exact hir) (by rw [HntE.out]; exact htr) (by rw [HntE.out]; exact HR.out) Hlen.out (by rw [HnE.out]; exact hn) (by rw [HntE.out]; exact hnt) hdi hdr
      obtain ⟨id, hid⟩ : ∃ id, ids[d] = id := ⟨_, rfl⟩
      obtain ⟨r, hrE⟩ : ∃ r, rows[d] = r := ⟨_, rfl⟩
      rw [hid, hrE] at htx
      have HTX := hide htx
      have HL := hide hL
      have HTT := hide hT
      have HEA := hide heach
      have HAP := hide hap
      have Hid' := hide hid
      have HrE := hide hrE
      have Hvs := hide hvs
      have Hxl := hide hxl
      clear htx hL hT heach hap htr hir hmr hid hrE hvs hxl
      go_wp2_with fail
      refine HTX.out.mono ?_
      rintro e wi ⟨v, rfl, hrv, hki⟩
      have hLi := hki.heap HL.out (by simp)
      have hTi := hki.heap HTT.out (by simp)
      obtain ⟨hc0, hf0⟩ := partT_c0 hLi (by rw [Hxl.out]; exact hlt)
      obtain ⟨hc1, hf1⟩ := partT_c01 hLi (by rw [Hxl.out]; exact hlt)
      rw [Hxl.out] at hc0 hf0 hc1 hf1
      have hszi := hki.size
      obtain ⟨a, cap, rfl, hav⟩ := owns_forms hrv
      have HLi := hide hLi
      have HTi := hide hTi
      have HRV := hide hrv
      clear hLi hTi hrv b0 b1 b2
      have i1 : (0 : Int) ≤ (d : Int) := by omega
      have i2 : (d : Int) < (n : Int) := by omega
      have hwl : (wordsOf terms r).length = r.length := by simp [wordsOf]
      obtain ⟨rl, hrl⟩ : ∃ rl, (wordsOf terms r).length = rl := ⟨_, rfl⟩
      rw [hrl] at HRV ⊢
      have Hrl := hide hrl
      clear hrl hwl
      go_wp2_with fail
      obtain ⟨W9, hW9⟩ : ∃ W9, (wi.setCell ⟨w.heap.size + 1, d * 2, none⟩ (.int .i64 (id : Int))).setCell ⟨w.heap.size + 1, d * 2 + 1, none⟩ (.slice a rl cap) = W9 := ⟨_, rfl⟩
      rw [hW9]
      have k9 : Kp [w.heap.size + 1] wi W9 := by rw [← hW9]; exact ((Kp.refl _ _).setCell (.inl (by simp)) _).setCell (.inl (by simp)) _
      have hL9 : W9.heap[w.heap.size + 1]? = some (.cells (partT ((ids.take d).zip vs ++ [(id, .slice a rl cap)]) n) 50 (0, 0)) := by
        rw [← hW9, heap_setCell_same _ (w.heap.size + 1) (d * 2 + 1) _ 50 _ (heap_setCell_same wi (w.heap.size + 1) (d * 2) _ 50 _ HLi.out)]
        have q1 := partT_id ((ids.take d).zip vs) n id (by rw [Hxl.out]; exact hlt)
        rw [Hxl.out] at q1
        rw [q1]
        have q2 := partT_w ((ids.take d).zip vs) n id (.slice none 0 0) (.slice a rl cap)
        rw [Hxl.out] at q2
        rw [q2]
      have hT9 := k9.heap HTi.out (by simp)
      have HL9 := hide hL9
      have HT9 := hide hT9
      have hs9 := k9.size
      clear hL9 hT9 hW9 hc0 hf0 hc1 hf1
      go_roundw
      case rel =>
        have htk : (ids.take (d + 1)).zip (vs ++ [.slice a rl cap]) = (ids.take d).zip vs ++ [(id, .slice a rl cap)] := by
          rw [take_snocL ids d hdi, Hid'.out, List.zip_append (by simp [Hvs.out]; omega)]
          rfl
        have hnew : (Value.slice a rl cap).ownBlock ≠ some (w.heap.size + 1) := fun e => by have := (HRV.out.lt _ e).1; omega
        have hold : ∀ i (h : i < vs.length) (h2 : i < rows.length), W9.ownsRow w.heap.size 9 1 vs[i] (wordsOf terms rows[i]).length (strV (wordsOf terms rows[i])) := fun i h h2 => by
          have h3 := HEA.out i h h2
          have hne := owns_ne h3 HL.out (by decide)
          exact k9.owns (hki.owns h3 (by simp)) (fun g hg hx => by simp at hx; subst hx; exact hne hg)
        refine ⟨d + 1, vs ++ [.slice a rl cap], by omega, by go_num, by simp [Hvs.out], by rw [htk]; exact HL9.out, HT9.out, ?_, ?_, by omega, ?_⟩
        · intro i h h2
          by_cases e : i < vs.length
          · rw [List.getElem_append_left e]
            exact hold i e h2
          · have ei : i = d := by simp [Hvs.out] at h e; omega
            subst ei
            have hl2 : ((vs ++ [Value.slice a rl cap])[i]) = .slice a rl cap := by
              rw [List.getElem_append_right (by omega)]; simp [Hvs.out]
            rw [hl2]
            simp only [HrE.out]
            rw [Hrl.out]
            have hO3 := k9.owns HRV.out (fun g hg hx => by simp at hx; subst hx; exact hnew hg)
            refine ⟨hO3.1, ?_⟩
            rcases hO3.2 with h' | ⟨g, cp, cur, e1, hb, rest⟩
            · exact .inl h'
            · exact .inr ⟨g, cp, cur, e1, by omega, rest⟩
        · intro i j hi hj hij g hg
          by_cases e : j < vs.length
          · rw [List.getElem_append_left e]
            rw [List.getElem_append_left (by omega)] at hg
            exact HAP.out i j (by omega) e hij g hg
          · have ej : j = vs.length := by simp at hj; omega
            subst ej
            rw [List.getElem_append_left (by omega)] at hg
            have hl2 : ((vs ++ [Value.slice a rl cap])[vs.length]) = .slice a rl cap := by
              rw [List.getElem_append_right (by omega)]; simp
            rw [hl2]
            intro hg2
            have h1 := (HRV.out.lt g hg2).1
            have hirr : i < rows.length := by have := Hvs.out; omega
            have h4 := ((HEA.out i (by omega) hirr).lt g hg).2
            omega
        · exact (hkp.trans hki (by simp)).trans k9 (by simp)
      case measure => simp [intOf]; omega
    · have ed : d = n := by omega
      subst ed
      have HL := hide hL
      have HEA := hide heach
      have HAP := hide hap
      clear hL hT heach hap
      go_wp2_with fail
      go_ret
      have hz : (ids.zip (rows.map (wordsOf terms))).length = d := by simp [Hlen.out, HnE.out]
      refine ⟨_, vs, rfl, ⟨by rw [hvs, hz], ?_, ?_, HAP.out⟩, hkp⟩
      · rw [hz]
        have hid2 : (ids.zip (rows.map (wordsOf terms))).map Prod.fst = ids := List.map_fst_zip (by simp [Hlen.out])
        have htk : ids.take d = ids := List.take_of_length_le (by rw [HnE.out]; omega)
        have hL2 := HL.out
        rw [htk] at hL2
        have hzl : (ids.zip vs).length = d := by simp [HnE.out, hvs]
        rw [hid2]
        refine ⟨by rw [tx2_len, hzl], .inr ⟨w.heap.size + 1, d, _, rfl, by omega, hL2, Nat.le_refl _, by unfold maxLen; omega, ?_, ?_⟩⟩
        · simp [partT, tx2_len, z2_len, hzl]
        · unfold partT
          rw [hzl, Nat.sub_self]
          simp only [z2, List.append_nil]
          rw [List.take_of_length_le (by rw [tx2_len, hzl]; omega)]
      · intro i h h2
        have hir : i < rows.length := by rw [Hlen.out, HnE.out]; omega
        have := HEA.out i h2 hir
        simpa using this
def unsealF (l : List UInt8) : Option (List UInt8) :=
  if l.length < 4 then none else if sumB (l.take (l.length - 4)) = l.drop (l.length - 4) then some (l.take (l.length - 4)) else none

set_option maxHeartbeats 2000000 in
set_option maxRecDepth 100000 in
theorem unseal_short (a : Option Addr) (cap : Nat) (l : List UInt8) (w : World) (h4 : l.length < 4) :
    Calls Tryz.prog 61 #[.slice a l.length cap] w fun e w' => ∃ R, e = .returned (.pointer (some ⟨R, 0, none⟩)) ∧ Rd w' R w.heap.size none ∧ Kp [] w w' := by
  generalize l.length = n at *
  have hd : ((n : Int) - 4 < 0) := by omega
  have hd2 : decide ((n : Int) - 4 < 0) = true := by simpa using hd
  go_enter Tryz.func61, Tryz.ntmps61
  go_wp2_with fail
  go_region
  go_wp2_with fail
  go_ret
  refine ⟨_, rfl, ⟨Nat.le_refl _, heap_alloc_new w.drew _⟩, ((Kp.refl [] w).drewN 1).alloc _⟩

theorem arr_at (g o c : Nat) (w : World) : (Instr.arrayAt 161 (.slice (some ⟨g, o, none⟩) 4 c)).run Tryz.prog w = .ok (.pointer (some ⟨g, o, none⟩)) w := by
  simp [Instr.arrayAt, run_underlying Tryz.underlying161]

theorem size5 (w : World) : (sizeOf 5).run Tryz.prog w = .ok 1 w := by kernel_rfl
theorem slice_tail (g off n cap : Nat) (w : World) (h : n + 4 ≤ cap) : (Instr.slice 42 (.slice (some ⟨g, off, none⟩) (n + 4) cap) (some (.int .i64 (n : Int))) none none).run Tryz.prog w = .ok (.slice (some ⟨g, off + n, none⟩) 4 (cap - n)) w := by
  have ht' : Tryz.prog.underlying 42 = some (.slice (Tryz.prog.elem 42)) := by simp [Program.elem, Tryz.underlying42]
  have he : Tryz.prog.elem 42 = 5 := by simp [Program.elem, Tryz.underlying42]
  rw [run_slice_l w 42 _ _ _ ht' .i64 _ (by omega) (by omega), he, size5]
  have hne : ¬ cap = n := by omega
  by_cases h0 : n = 0
  · subst h0
    simp [Result.andThen, sliced, Addr.add, hne]
  · simp [Result.andThen, sliced, Addr.add, hne, h0]
theorem arr_eq (s0 s1 s2 s3 t0 t1 t2 t3 : UInt8) (w : World) : (Op.equalIn 10000 161 (.agg #[.int .u8 (s0.toNat : Int), .int .u8 (s1.toNat : Int), .int .u8 (s2.toNat : Int), .int .u8 (s3.toNat : Int)]) (.agg #[.int .u8 (t0.toNat : Int), .int .u8 (t1.toNat : Int), .int .u8 (t2.toNat : Int), .int .u8 (t3.toNat : Int)])).run Tryz.prog w = .ok ([s0, s1, s2, s3] == [t0, t1, t2, t3]) w :=
  run_equalIn_bytes (P := Tryz.prog) w 9998 161 5 4 Tryz.underlying161 Tryz.underlying5 size5 [s0, s1, s2, s3] [t0, t1, t2, t3] rfl rfl

set_option maxHeartbeats 2000000 in
set_option maxRecDepth 100000 in
theorem unseal_long (g off cap : Nat) (d : List UInt8) (t0 t1 t2 t3 : UInt8) (w : World) (hg : g < w.heap.size) (hc : ∀ j (hj : j < (d ++ [t0, t1, t2, t3]).length), w.cell? ⟨g, off + j, none⟩ = some (.int .u8 ((d ++ [t0, t1, t2, t3])[j].toNat : Int))) (hl : d.length ≤ 2000000) (hcap : d.length + 4 ≤ cap) (hcap2 : cap ≤ 9223372036854775807) :
    Calls Tryz.prog 61 #[.slice (some ⟨g, off, none⟩) (d.length + 4) cap] w fun e w' => ∃ R, e = .returned (.pointer (some ⟨R, 0, none⟩)) ∧ Rd w' R w.heap.size (if sumB d = [t0, t1, t2, t3] then some d else none) ∧ Kp [] w w' := by
  have hv : Vw w w.heap.size (some ⟨g, off, none⟩) d := .inr ⟨g, off, rfl, hg, fun j hj => by
    rw [hc j (by simp; omega)]
    rw [List.getElem_append_left hj]⟩
  have hc0 := hc d.length (by simp)
  have hc1 := hc (d.length + 1) (by simp)
  have hc2 := hc (d.length + 2) (by simp)
  have hc3 := hc (d.length + 3) (by simp)
  simp at hc0 hc1 hc2 hc3
  rw [← Nat.add_assoc] at hc1 hc2 hc3
  have hsum := hide (fun w' (h : Vw w' w'.heap.size (some ⟨g, off, none⟩) d) => sum_any (some ⟨g, off, none⟩) cap d w' h (by omega))
  obtain ⟨s0, s1, s2, s3, hs⟩ : ∃ s0 s1 s2 s3, sumB d = [s0, s1, s2, s3] := ⟨_, _, _, _, rfl⟩
  have hsA : sumA d = .agg #[.int .u8 (s0.toNat : Int), .int .u8 (s1.toNat : Int), .int .u8 (s2.toNat : Int), .int .u8 (s3.toNat : Int)] := by
    unfold sumA; rw [← sumB_V, hs]; rfl
  rw [hsA] at hsum
  rw [hs]
  have heq := fun w' => arr_eq s0 s1 s2 s3 t0 t1 t2 t3 w'
  obtain ⟨b, hb⟩ : ∃ b, ([s0, s1, s2, s3] == [t0, t1, t2, t3]) = b := ⟨_, rfl⟩
  rw [hb] at heq
  have HB : Hid ((if [s0, s1, s2, s3] = [t0, t1, t2, t3] then some d else none) = if b = true then some d else none) := by
    show _ = _
    rw [← hb]
    simp only [beq_iff_eq]
  obtain ⟨res, hres⟩ : ∃ res, (if [s0, s1, s2, s3] = [t0, t1, t2, t3] then some d else none) = res := ⟨_, rfl⟩
  rw [hres] at HB ⊢
  clear hres hb
  have HS := hide hs
  clear hs hsA
  obtain ⟨n, hn⟩ : ∃ n, d.length = n := ⟨_, rfl⟩
  rw [hn] at hc0 hc1 hc2 hc3 hsum hl hcap ⊢
  have HN := hide hn
  have hst := fun w' => slice_tail g off n cap w' hcap
  have harr := fun w' => arr_at g (off + n) (cap - n) w'
  have HVd : Hid (Vw w.drew w.drew.heap.size (some ⟨g, off, none⟩) d) := hv
  have HV := hide hv
  clear hc hv hn
  have hd : ¬ ((n : Int) < 0) := by omega
  have hd2 : decide ((n : Int) < 0) = false := by simp
  have hI1 : (0 : Int) ≤ (n : Int) := by omega
  have hI2 : (n : Int) ≤ (cap : Int) := by omega
  have hI3 : (n : Int) ≤ ((n + 4 : Nat) : Int) := by omega
  have hI4 : ((n + 4 : Nat) : Int) ≤ (cap : Int) := by omega
  have hI5 : n ≤ cap := by omega
  have hI6 : ¬ cap = n := by omega
  have hI7 : ¬ cap < n := by omega
  have hI8 : n ≤ n + 4 := by omega
  go_enter Tryz.func61, Tryz.ntmps61
  go_wp2_with fail
  go_region_held3 (fun w2 => w2.cell? ⟨g, off + n, none⟩ = some (.int .u8 (t0.toNat : Int)) ∧ w2.cell? ⟨g, off + n + 1, none⟩ = some (.int .u8 (t1.toNat : Int)) ∧ w2.cell? ⟨g, off + n + 2, none⟩ = some (.int .u8 (t2.toNat : Int)) ∧ w2.cell? ⟨g, off + n + 3, none⟩ = some (.int .u8 (t3.toNat : Int))) (first | (exact ⟨hk1.cellv hc0 (by simp), hk1.cellv hc1 (by simp), hk1.cellv hc2 (by simp), hk1.cellv hc3 (by simp)⟩) | go_keep)
    ((go_at_call 97; refine (hsum.out _ HVd.out).mono ?_; rintro e w1 ⟨rfl, hk1⟩))
  all_goals
    have kp : Kp [] w w1 := ⟨hk1.os, hk1.tape, hk1.output, hk1.size, hk1.block⟩
    have hsz := kp.size
    clear heq hk1
    cases b
    · go_wp2_with fail
      go_ret
      rw [HB.out]
      exact ⟨_, rfl, ⟨hsz, heap_alloc_new w1 _⟩, kp.alloc _⟩
    · go_wp2_with fail
      go_ret
      rw [HB.out]
      refine ⟨_, rfl, ⟨hsz, _, cap, ?_, vw_kp HV.out (kp.alloc _) (by simp), by rw [HN.out]; omega, by omega⟩, kp.alloc _⟩
      rw [HN.out]
      exact heap_alloc_new w1 _

/-- Unseal, at whatever bytes. -/
theorem unseal_any (a : Option Addr) (cap : Nat) (l : List UInt8) (w : World) (hv : Vw w w.heap.size a l) (hl : l.length ≤ 2000000) (hc : l.length ≤ cap) (hc2 : cap ≤ 9223372036854775807) :
    Calls Tryz.prog 61 #[.slice a l.length cap] w fun e w' => ∃ R, e = .returned (.pointer (some ⟨R, 0, none⟩)) ∧ Rd w' R w.heap.size (unsealF l) ∧ Kp [] w w' := by
  by_cases h4 : l.length < 4
  · have e : unsealF l = none := by unfold unsealF; rw [if_pos h4]
    rw [e]
    exact unseal_short a cap l w h4
  · rcases hv with ⟨rfl, _⟩ | ⟨g, off, rfl, hg, hcell⟩
    · simp at h4
    · have hd : (l.drop (l.length - 4)).length = 4 := by simp; omega
      obtain ⟨t0, t1, t2, t3, ht⟩ : ∃ t0 t1 t2 t3, l.drop (l.length - 4) = [t0, t1, t2, t3] := by
        match hm : l.drop (l.length - 4), hd with
        | [t0, t1, t2, t3], _ => exact ⟨t0, t1, t2, t3, rfl⟩
      have e : unsealF l = if sumB (l.take (l.length - 4)) = [t0, t1, t2, t3] then some (l.take (l.length - 4)) else none := by unfold unsealF; rw [if_neg h4, ht]
      rw [e]
      have hll : l = l.take (l.length - 4) ++ [t0, t1, t2, t3] := by rw [← ht, List.take_append_drop]
      have hlen : (l.take (l.length - 4)).length + 4 = l.length := by simp; omega
      have := unseal_long g off cap (l.take (l.length - 4)) t0 t1 t2 t3 w hg (by
        intro j hj
        have hj' : j < l.length := by rw [hll]; exact hj
        have h2 := hcell j hj'
        rw [h2]
        congr 3
        congr 1
        congr 1) (by omega) (by omega) hc2
      rw [hlen] at this
      exact this
def sumL : List (List UInt8) → Nat
  | [] => 0
  | x :: r => x.length + sumL r
def lenF (ws : List (List UInt8)) : Nat := (ws.length - 1) + sumL ws
theorem sumL_snoc : ∀ (l : List (List UInt8)) (x : List UInt8), sumL (l ++ [x]) = sumL l + x.length
  | [], x => by simp [sumL]
  | y :: r, x => by simp [sumL, sumL_snoc r x]; omega
theorem sumL_take : ∀ (l : List (List UInt8)) (k : Nat), sumL (l.take k) ≤ sumL l
  | [], k => by simp [sumL]
  | y :: r, 0 => by simp [sumL]
  | y :: r, k + 1 => by have := sumL_take r k; simp [sumL]; omega

set_option maxHeartbeats 800000 in
set_option maxRecDepth 100000 in
theorem length_any (B : Nat) (v : Value) (ws : List (List UInt8)) (w : World) (h : w.ownsRow B 9 1 v ws.length (strV ws)) (hn : ws.length ≤ 2000000) (hs : sumL ws ≤ 100000000) :
    Calls Tryz.prog 104 #[v] w fun e w' => e = .returned (.int .i64 (lenF ws)) ∧ w' = w := by
  obtain ⟨a, cap, rfl, ha⟩ := owns_forms h
  have hmax : max ((ws.length : Int) - 1) 0 = ((ws.length - 1 : Nat) : Int) := by omega
  have Hl : Hid (lenF ws = (ws.length - 1) + sumL ws) := rfl
  generalize lenF ws = res at *
  obtain ⟨m, hm⟩ : ∃ m, ws.length - 1 = m := ⟨_, rfl⟩
  rw [hm] at hmax Hl
  have hmle : m ≤ 2000000 := by omega
  have HH := hide h
  clear h hm
  go_enter Tryz.func104, Tryz.ntmps104
  go_wp2_with fail
  go_loopw [3, 12] (fun tv iv wr => ∃ k : Nat, k ≤ ws.length ∧ iv = .int .i64 k ∧ tv = .int .i64 ((m + sumL (ws.take k) : Nat) : Int) ∧ wr = w) (fun _ iv _ => ws.length - (intOf iv).toNat)
  case atStart => exact ⟨0, by omega, rfl, by simp [sumL], rfl⟩
  case round =>
    obtain ⟨k, hk, rfl, rfl, rfl⟩ := hrel
    by_cases hlt : k < ws.length
    · obtain ⟨g, rfl⟩ := ha (by omega)
      have hc := strs_cells HH.out rfl k hlt
      have hsn : sumL (ws.take (k + 1)) = sumL (ws.take k) + ws[k].length := by rw [take_snocL ws k hlt, sumL_snoc]
      have hst := sumL_take ws (k + 1)
      have hszk : (ByteArray.mk ws[k].toArray).size = ws[k].length := by show ws[k].toArray.size = _; simp
      obtain ⟨x, hx⟩ : ∃ x, (ByteArray.mk ws[k].toArray) = x := ⟨_, rfl⟩
      rw [hx] at hc hszk
      rw [← hszk] at hsn
      obtain ⟨s1, hs1⟩ : ∃ s1, sumL (ws.take k) = s1 := ⟨_, rfl⟩
      rw [hs1] at hsn ⊢
      have Hsn := hide hsn
      rw [hsn] at hst
      clear hsn hszk hx hs1
      go_wp2_with fail
      go_roundw
      case rel => exact ⟨k + 1, by omega, by go_num, by rw [Hsn.out]; go_num, by trivial⟩
      case measure => simp [intOf]; omega
    · have ek : k = ws.length := by omega
      subst ek
      rw [List.take_length]
      go_wp2_with fail
      go_ret
      exact ⟨ret_int (by rw [Hl.out]), by trivial⟩
end Go.Proofs.YtnffagpdnklnkaaGreatDoor.Pak
