import Derived.Test.YtoghifiplaabbaaPakS
import Derived.Deep.RegionLaw
namespace Go.Proofs.Ytoghifiplaabbaa.Pak
open Go.RowKit Go.Proofs.Ytoghifiplaabbaa SiftM
set_option linter.unusedVariables false

/-- The map says these rows. -/
structure RowsAre (f : Nat → Nat → Option Nat) (rows : List (List Nat)) (nt : Nat) : Prop where
  at' : ∀ d (h : d < rows.length) i (hi : i < rows[d].length), f d i = some rows[d][i]
  stop : ∀ d (h : d < rows.length), f d rows[d].length = none
  small : ∀ d (h : d < rows.length), rows[d].length ≤ 1000
  lt : ∀ d (h : d < rows.length), ∀ x ∈ rows[d], x < nt
def wordsOf (terms : List (List UInt8)) (r : List Nat) : List (List UInt8) := r.map fun i => terms.getD i []

theorem far_block {w w3 : World} {o o' : Obj} {L : Nat} {row : Option Nat} (hL : w.heap[L]? = some o) (hg : ((w.alloc o').drew).grownBy w3 row) (hne : row ≠ some L) : w3.heap[L]? = some o := by
  rw [hg.block L (by have := heap_lt hL; simp; omega) (fun e => hne e.symm)]
  show (w.alloc o').heap[L]? = _
  rw [Below.heap_alloc _ _ _ (heap_lt hL)]; exact hL

set_option maxHeartbeats 2000000 in
set_option maxRecDepth 100000 in
theorem texts_any (M c B : Nat) (f : Nat → Nat → Option Nat) (iv tv : Value) (ids : List Nat) (terms : List (List UInt8)) (rows : List (List Nat)) (w : World) (hm : MapIs w M c f) (hi : w.ownsRow B 3 1 iv ids.length (intV ids)) (ht : w.ownsRow B 9 1 tv terms.length (strV terms)) (hr : RowsAre f rows terms.length) (hlen : rows.length = ids.length) (hn : ids.length ≤ 60) (hnt : terms.length ≤ 100000) :
    Calls Try.prog 38 #[.agg #[iv, tv, .map (some M)]] w fun e w' => ∃ v vs, e = .returned v ∧ TextsIs w' w.heap.size v (ids.zip (rows.map (wordsOf terms))) vs ∧ Kp [] w w' := by
  obtain ⟨i0, hii, hz0, hz1, hz2⟩ := info_parts Try.info9
  obtain ⟨ai, ci, rfl, hai⟩ := owns_forms hi
  obtain ⟨at', ct, rfl, hat⟩ := owns_forms ht
  obtain ⟨n, hnE⟩ : ∃ n, ids.length = n := ⟨_, rfl⟩
  obtain ⟨nt, hntE⟩ : ∃ nt, terms.length = nt := ⟨_, rfl⟩
  have hmk := fun w' => make_texts n w' (by omega)
  have HM := hide hm
  have HI := hide hi
  have HT := hide ht
  have HR := hide hr
  have Hlen := hide hlen
  have HnE := hide hnE
  have HntE := hide hntE
  rw [hnE] at hn hai HI ⊢
  rw [hntE] at hnt hat HT HR ⊢
  clear hm hi ht hr hlen hnE hntE
  go_enter Try.func38, Try.ntmps38
  go_wp2_with fail
  obtain ⟨W, hW⟩ : ∃ W, (w.alloc (.cells #[.slice ai n ci, .slice at' nt ct, .map (some M)] 66)).alloc (.cells (partT [] n) 52) = W := ⟨_, rfl⟩
  rw [hW]
  have k0 : Kp [] w W := by rw [← hW]; exact ((Kp.refl _ _).alloc _).alloc _
  have hT0 : W.heap[w.heap.size]? = some (.cells #[.slice ai n ci, .slice at' nt ct, .map (some M)] 66 (0, 0)) := by
    rw [← hW, Below.heap_alloc _ _ _ (by simp)]; exact heap_alloc_new w _
  have hL0 : W.heap[w.heap.size + 1]? = some (.cells (partT [] n) 52 (0, 0)) := by
    rw [← hW]
    have := heap_alloc_new (w.alloc (.cells #[.slice ai n ci, .slice at' nt ct, .map (some M)] 66)) (.cells (partT [] n) 52)
    simpa using this
  have hsz0 : W.heap.size = w.heap.size + 2 := by rw [← hW]; simp
  have HT0 := hide hT0
  have HL0 := hide hL0
  clear hT0 hL0 hW hmk
  go_loopw [15] (fun dv wr => ∃ (d : Nat) (vs : List Value), d ≤ n ∧ dv = .int .i64 d ∧ vs.length = d ∧ wr.heap[w.heap.size + 1]? = some (.cells (partT ((ids.take d).zip vs) n) 52 (0, 0)) ∧ wr.heap[w.heap.size]? = some (.cells #[.slice ai n ci, .slice at' nt ct, .map (some M)] 66 (0, 0))
      ∧ (∀ i (h : i < vs.length) (h2 : i < rows.length), wr.ownsRow w.heap.size 9 1 vs[i] (wordsOf terms rows[i]).length (strV (wordsOf terms rows[i])))
      ∧ (∀ i j (hi : i < vs.length) (hj : j < vs.length), i < j → ∀ g, vs[i].ownBlock = some g → vs[j].ownBlock ≠ some g) ∧ w.heap.size + 2 ≤ wr.heap.size ∧ Kp [] w wr) (fun dv _ => n - (intOf dv).toNat)
  case atStart => exact ⟨0, [], by omega, rfl, rfl, HL0.out, HT0.out, fun i h => by simp at h, fun i j h => by simp at h, by omega, k0⟩
  case round =>
    clear HT0 HL0 k0
    obtain ⟨d, vs, hd, rfl, hvs, hL, hT, heach, hap, hsz, hkp⟩ := hrel
    by_cases hlt : d < n
    · have hdi : d < ids.length := by rw [HnE.out]; exact hlt
      have hdr : d < rows.length := by rw [Hlen.out]; exact hdi
      obtain ⟨gi, rfl⟩ := hai (by omega)
      have hir := hkp.owns HI.out (by simp)
      have htr := hkp.owns HT.out (by simp)
      have hmr := HM.out.kp hkp (by simp)
      have hci := ints_cells hir HnE.out d hdi
      have hxl : ((ids.take d).zip vs).length = d := by simp [hvs]; omega
      obtain ⟨hc0, hf0⟩ := partT_c0 hL (by rw [hxl]; exact hlt)
      rw [hxl] at hc0 hf0
      obtain ⟨b0, b1, b2, _, _, _⟩ := tb_cells hT
      obtain ⟨id, hid⟩ : ∃ id, ids[d] = id := ⟨_, rfl⟩
      rw [hid] at hci
      have hLs : Hid ((wr.setCell ⟨w.heap.size + 1, d * 2, none⟩ (.int .i64 (id : Int))).heap[w.heap.size + 1]? = some (.cells (partT ((ids.take d).zip vs ++ [(id, .slice none 0 0)]) n) 52 (0, 0))) := by
        show _ = _
        rw [heap_setCell_same wr (w.heap.size + 1) (d * 2) _ 52 _ hL]
        have := partT_id ((ids.take d).zip vs) n id (by rw [hxl]; exact hlt)
        rw [hxl] at this
        rw [this]
      obtain ⟨W1, hW1⟩ : ∃ W1, wr.setCell ⟨w.heap.size + 1, d * 2, none⟩ (.int .i64 (id : Int)) = W1 := ⟨_, rfl⟩
      rw [hW1] at hLs
      have k1 : Kp [w.heap.size + 1] wr W1 := by rw [← hW1]; exact (Kp.refl _ _).setCell (.inl (by simp)) _
      have hm1 := hmr.kp k1 (by simpa using map_ne hmr hL)
      have hrow := row_any M c d f (.slice (some ⟨gi, 0, none⟩) n ci) (.slice at' nt ct) rows[d] W1 hm1 (HR.out.at' d hdr) (HR.out.stop d hdr) (HR.out.small d hdr) (by omega) rfl rfl
      have hrl := HR.out.lt d hdr
      have hrs := HR.out.small d hdr
      obtain ⟨r, hrE⟩ : ∃ r, rows[d] = r := ⟨_, rfl⟩
      rw [hrE] at hrow hrl hrs
      have HROW := hide hrow
      have HRL := hide hrl
      have HL := hide hL
      have HTT := hide hT
      have HEA := hide heach
      have HAP := hide hap
      have HTR := hide htr
      have Hid' := hide hid
      have HrE := hide hrE
      have Hvs := hide hvs
      have Hxl := hide hxl
      have hT1 := k1.heap hT (by simp)
      have HT1 := hide hT1
      obtain ⟨e0, e1, e2, _, _, _⟩ := tb_cells hT1
      clear hrow hrl hL hT heach hap htr hir hid hrE hvs hxl hT1
      go_wp2_with fail
      clear hW1
      refine HROW.out.mono ?_
      rintro e wi ⟨rv, rfl, hrv, hki⟩
      obtain ⟨ar, cr, rfl, har⟩ := owns_forms hrv
      have hLi := hki.heap hLs.out (by simp)
      have hTi := hki.heap HT1.out (by simp)
      have hk1i : Kp [w.heap.size + 1] wr wi := k1.next (hki.mono (by simp))
      have htL : (Value.slice at' nt ct).ownBlock ≠ some (w.heap.size + 1) := owns_ne HTR.out HL.out (by decide)
      have hti := hk1i.owns HTR.out (fun g hg hx => by simp at hx; subst hx; exact htL hg)
      have hszi := hk1i.size
      have HLi := hide hLi
      have HTi := hide hTi
      have Hti := hide hti
      have HRV := hide hrv
      clear hLi hTi hti hrv b0 b1 b2 hc0 hf0 hci e0 e1 e2
      go_wp2_with fail
      go_loopw [29] (fun kv w2 => ∃ (k : Nat) (a : Option Addr) (cap : Nat), k ≤ r.length ∧ kv = .int .i64 k ∧ w2.ownsRow wi.heap.size 9 1 (.slice a k cap) k (strV ((wordsOf terms r).take k)) ∧ w2.heap[w.heap.size + 1]? = some (.cells (partT ((ids.take d).zip vs ++ [(id, .slice a k cap)]) n) 52 (0, 0)) ∧ Kp [w.heap.size + 1] wi w2) (fun kv _ => r.length - (intOf kv).toNat)
      case atStart => exact ⟨0, none, 0, by omega, rfl, World.ownsRow_nil _ _ _ _, HLi.out, Kp.refl _ _⟩
      case round =>
        clear HLi
        obtain ⟨k, a, cap, hk, rfl, hown, hL2, hk2⟩ := hrel
        have hT2 := hk2.heap HTi.out (by simp)
        obtain ⟨b0, b1, b2, _, _, _⟩ := tb_cells hT2
        by_cases hlt2 : k < r.length
        · obtain ⟨gr, rfl⟩ := har (by omega)
          have hrv2 := hk2.owns HRV.out (fun g hg hx => by
            simp at hx; subst hx
            exact owns_ne HRV.out (hki.heap hLs.out (by simp)) (by decide) hg)
          have hcr := ints_cells hrv2 rfl k hlt2
          have hxlt := HRL.out r[k] (List.getElem_mem hlt2)
          obtain ⟨gt, rfl⟩ := hat (by omega)
          have htv2 := hk2.owns Hti.out (fun g hg hx => by simp at hx; subst hx; exact htL hg)
          have hct := strs_cells htv2 HntE.out r[k] (by rw [HntE.out]; exact hxlt)
          have hgtl := World.block_lt_of_cell? wr _ hct
          have hgtL : gt ≠ w.heap.size + 1 := fun e => htL (by simp [Value.ownBlock, e])
          have hwk : Hid ((wordsOf terms r).take (k + 1) = (wordsOf terms r).take k ++ [terms.getD r[k] []]) := by
            show _ = _
            rw [take_snocL _ k (by simp [wordsOf]; exact hlt2)]
            simp [wordsOf]
          have hxT : r[k] < terms.length := by rw [HntE.out]; exact hxlt
          have htg : terms.getD r[k] [] = terms[r[k]] := by rw [List.getD_eq_getElem?_getD, List.getElem?_eq_getElem]; rfl
          rw [htg] at hwk
          obtain ⟨x, hx⟩ : ∃ x, r[k] = x := ⟨_, rfl⟩
          obtain ⟨tm, htm⟩ : ∃ tm, terms[r[k]] = tm := ⟨_, rfl⟩
          rw [htm] at hct hwk
          rw [hx] at hcr hct hxlt
          obtain ⟨hc1, hf1⟩ := partT_c1 hL2
          rw [Hxl.out] at hc1 hf1
          have hLn := heap_lt hL2
          have hTn := heap_lt hT2
          have HO := hide hown
          have HL2 := hide hL2
          have hvL := hide (owns_ne hown hL2 (by decide))
          have hvT := hide (owns_ne hown hT2 (by decide))
          have hvlt : ∀ g, (Value.slice a k cap).ownBlock = some g → wi.heap.size ≤ g := fun g hg => (hown.lt g hg).1
          have hszi2 := hk2.size
          have Hvlt := hide hvlt
          have hvt : Hid ((Value.slice a k cap).ownBlock ≠ some gt) := by
            intro e
            have h1 := hvlt gt e
            have h2 := (Hti.out.lt gt rfl).2
            omega
          clear hown hL2 hT2 htv2 hrv2 hx htm htg hvlt hxT
          have i1 : (0 : Int) ≤ (d : Int) := by omega
          have i2 : (d : Int) < (n : Int) := by omega
          have i3 : (0 : Int) ≤ (x : Int) := by omega
          have i4 : (x : Int) < (nt : Int) := by omega
          go_wp2_with fail
          go_region_law
            (refine step_append_lies _ (by rfl) _ _ _ (by rfl) wi.heap.size 9 i0 _ 1 16 Try.underlying23 hii hz0 hz1 hz2 rfl (by omega) (.slice a k cap) k (strV ((wordsOf terms r).take k)) (by rfl) ((HO.out.alloc _).drew)
                ⟨wr.heap.size, 0, none⟩ 1 1 [.string ⟨tm.toArray⟩] (by rfl) (by rfl) (World.news_of_block (cs := #[.string ⟨tm.toArray⟩]) (t := 9) (fr := (0, 0)) (heap_alloc_new wr _)) (by simp [Value.oneCell'])
                (by omega) (by unfold maxLen; omega) (by omega) (by simp; omega) (wr.heap.size + 1) (by simp) ?_; intro gg cap' w3 hown3 hgrow hat3 hlt3; have hL3 := far_block HL2.out hgrow hvL.out; have hf3 := (partT_c1 hL3).2; have hc3 := (partT_c1 hL3).1; rw [Hxl.out] at hf3 hc3)
          all_goals
            have k3 : Kp ((w.heap.size + 1) :: (Value.slice a k cap).ownBlock.toList) wr w3 := (((Kp.refl _ wr).alloc _).drewN 1).grown hgrow (fun j hj => .inl (by simp [hj]))
            have kp3 : Kp [w.heap.size + 1] wi (w3.setCell ⟨w.heap.size + 1, d * 2 + 1, none⟩ (.slice (some ⟨gg, 0, none⟩) (k + 1) cap')) := (hk2.trans k3 (by
              intro y hy
              simp only [List.mem_cons] at hy
              rcases hy with rfl | hy
              · left; simp
              · right; exact Hvlt.out y (by simpa using hy))).setCell (.inl (by simp)) _
            have hL4 : (w3.setCell ⟨w.heap.size + 1, d * 2 + 1, none⟩ (.slice (some ⟨gg, 0, none⟩) (k + 1) cap')).heap[w.heap.size + 1]? = some (.cells (partT ((ids.take d).zip vs ++ [(id, .slice (some ⟨gg, 0, none⟩) (k + 1) cap')]) n) 52 (0, 0)) := by
              rw [heap_setCell_same w3 (w.heap.size + 1) (d * 2 + 1) _ 52 _ hL3]
              have := partT_w ((ids.take d).zip vs) n id (.slice a k cap) (.slice (some ⟨gg, 0, none⟩) (k + 1) cap')
              rw [Hxl.out] at this
              rw [this]
            have ho4 : (w3.setCell ⟨w.heap.size + 1, d * 2 + 1, none⟩ (.slice (some ⟨gg, 0, none⟩) (k + 1) cap')).ownsRow wi.heap.size 9 1 (.slice (some ⟨gg, 0, none⟩) (k + 1) cap') (k + 1) (strV ((wordsOf terms r).take (k + 1))) := by
              rw [hwk.out, strV_one]
              refine Kp.owns (S := [w.heap.size + 1]) ((Kp.refl _ _).setCell (.inl (by simp)) _) hown3 (fun g hg hx => ?_)
              simp at hx; subst hx
              exact owns_ne hown3 hL3 (by decide) hg
            have HL4 := hide hL4
            have HO4 := hide ho4
            clear hL4 ho4 hL3 hf3 hc3 hc1 hf1 b0 b1 b2 hct hcr i1 i2 i3 i4
            go_wp2_with fail
            go_roundw
            case rel => exact ⟨k + 1, _, _, by omega, by go_num, HO4.out, HL4.out, kp3⟩
            case measure => simp [intOf]; omega
        · have ek : k = r.length := by omega
          subst ek
          have HO := hide hown
          have HL2 := hide hL2
          have HT2 := hide hT2
          have hsz2 := hk2.size
          clear hown hL2 hT2 b0 b1 b2
          go_wp2_with fail
          go_roundw
          case rel =>
            have hwl : (wordsOf terms r).length = r.length := by simp [wordsOf]
            have htk : (ids.take (d + 1)).zip (vs ++ [.slice a r.length cap]) = (ids.take d).zip vs ++ [(id, .slice a r.length cap)] := by
              rw [take_snocL ids d hdi, Hid'.out, List.zip_append (by simp [Hvs.out]; omega)]
              rfl
            have hO2 := HO.out
            rw [List.take_of_length_le (by rw [hwl]; omega)] at hO2
            refine ⟨d + 1, vs ++ [.slice a r.length cap], by omega, by go_num, by simp [Hvs.out], by rw [htk]; exact HL2.out, HT2.out, ?_, ?_, by omega, ?_⟩
            · intro i h h2
              by_cases e : i < vs.length
              · rw [List.getElem_append_left e]
                have h3 := hk1i.owns (HEA.out i e h2) (fun g hg hx => by simp at hx; subst hx; exact owns_ne (HEA.out i e h2) HL.out (by decide) hg)
                exact hk2.owns h3 (fun g hg hx => by simp at hx; subst hx; exact owns_ne (HEA.out i e h2) HL.out (by decide) hg)
              · have ei : i = d := by simp [Hvs.out] at h e; omega
                subst ei
                have hl2 : ((vs ++ [Value.slice a r.length cap])[i]) = .slice a r.length cap := by
                  rw [List.getElem_append_right (by omega)]; simp [Hvs.out]
                rw [hl2]
                simp only [HrE.out]
                rw [hwl]
                refine ⟨hO2.1, ?_⟩
                rcases hO2.2 with h' | ⟨g, cp, cur, e1, hb, rest⟩
                · exact .inl h'
                · exact .inr ⟨g, cp, cur, e1, by omega, rest⟩
            · intro i j hi hj hij g hg
              by_cases e : j < vs.length
              · rw [List.getElem_append_left e]
                rw [List.getElem_append_left (by omega)] at hg
                exact HAP.out i j (by omega) e hij g hg
              · have ej : j = vs.length := by simp at hj; omega
                subst ej
                rw [List.getElem_append_left (by omega)] at hg
                have hl2 : ((vs ++ [Value.slice a r.length cap])[vs.length]) = .slice a r.length cap := by
                  rw [List.getElem_append_right (by omega)]; simp
                rw [hl2]
                intro hg2
                have h1 := (HO.out.lt g hg2).1
                have hirr : i < rows.length := by have := Hvs.out; omega
                have h3 := hk1i.owns (HEA.out i (by omega) hirr) (fun g hg hx => by simp at hx; subst hx; exact owns_ne (HEA.out i (by omega) hirr) HL.out (by decide) hg)
                have h4 := (h3.lt g hg).2
                omega
            · exact (hkp.trans hk1i (by simp)).trans hk2 (by simp)
          case measure => simp [intOf]; omega
    · have ed : d = n := by omega
      subst ed
      have HL := hide hL
      have HEA := hide heach
      have HAP := hide hap
      clear hL hT heach hap
      go_wp2_with fail
      go_ret
      have hz : (ids.zip (rows.map (wordsOf terms))).length = d := by simp [Hlen.out, HnE.out]
      refine ⟨_, vs, rfl, ⟨by rw [hvs, hz], ?_, ?_, HAP.out⟩, hkp⟩
      · rw [hz]
        have hid2 : (ids.zip (rows.map (wordsOf terms))).map Prod.fst = ids := List.map_fst_zip (by simp [Hlen.out])
        have htk : ids.take d = ids := List.take_of_length_le (by rw [HnE.out]; omega)
        have hL2 := HL.out
        rw [htk] at hL2
        have hzl : (ids.zip vs).length = d := by simp [HnE.out, hvs]
        rw [hid2]
        refine ⟨by rw [tx2_len, hzl], .inr ⟨w.heap.size + 1, d, _, rfl, by omega, hL2, Nat.le_refl _, by unfold maxLen; omega, ?_, ?_⟩⟩
        · simp [partT, tx2_len, z2_len, hzl]
        · unfold partT
          rw [hzl, Nat.sub_self]
          simp only [z2, List.append_nil]
          rw [List.take_of_length_le (by rw [tx2_len, hzl]; omega)]
      · intro i h h2
        have hir : i < rows.length := by rw [Hlen.out, HnE.out]; omega
        have := HEA.out i h2 hir
        simpa using this
end Go.Proofs.Ytoghifiplaabbaa.Pak
