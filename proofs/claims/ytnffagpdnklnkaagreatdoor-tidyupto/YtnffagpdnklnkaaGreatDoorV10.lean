import Derived.Test.YtnffagpdnklnkaaGreatDoorV07
set_option linter.unusedVariables false
set_option linter.unusedSimpArgs false
set_option maxRecDepth 8000
namespace Go.Proofs.YtnffagpdnklnkaaGreatDoor.Pak
open Go.RowKit Go.Proofs.YtnffagpdnklnkaaGreatDoor Go.Proofs.YtnffagpdnklnkaaGreatDoor.Spl SiftM
theorem allW_len (T : List Tx) (h : ∀ t ∈ T, t.2.length ≤ 60) : (allW T).length ≤ 60 * T.length := by
  induction T with
  | nil => simp [allW]
  | cons t r ih =>
    have h1 := h t (by simp)
    have h2 := ih (fun x hx => h x (by simp [hx]))
    simp [allW]; omega

theorem compact_len {α : Type} [Inhabited α] [DecidableEq α] (zs : List α) : (Lib.compact zs).length ≤ zs.length := by
  unfold Lib.compact Lib.compactUpTo
  rw [List.length_map]
  have := List.length_filter_le (Lib.keeps zs.toArray) (List.range zs.length)
  simpa using this

theorem bsGo_le (less : Nat → Bool) : ∀ (f lo hi : Nat), lo ≤ hi → Lib.bsGo less f lo hi ≤ hi
  | 0, lo, hi, h => h
  | f + 1, lo, hi, h => by
    unfold Lib.bsGo
    by_cases h1 : lo < hi
    · rw [if_pos h1]
      split
      · exact bsGo_le less f _ _ (by omega)
      · exact Nat.le_trans (bsGo_le less f _ _ (by omega)) (by omega)
    · rw [if_neg h1]; exact h
theorem bsIx_le (terms : List (List UInt8)) (x : List UInt8) : bsIx terms x ≤ terms.length := bsGo_le _ _ _ _ (Nat.zero_le _)
theorem allW_mem (T : List Tx) (d : Nat) (h : d < T.length) : T[d].2.length ≤ (allW T).length := by
  induction T generalizing d with
  | nil => simp at h
  | cons t r ih =>
    cases d with
    | zero => simp [allW]
    | succ d => have := ih d (by simpa using h); simp [allW]; omega
theorem terms_pos (T : List Tx) (h : 0 < (allW T).length) : 0 < (termsOf T).length := by
  unfold termsOf Lib.compact Lib.compactUpTo
  rw [List.length_map]
  apply List.length_pos_of_mem (a := 0)
  rw [List.mem_filter]
  exact ⟨by simpa using h, by simp [Lib.keeps]⟩

set_option maxHeartbeats 4000000 in
set_option maxRecDepth 100000 in
theorem tableOf_any (B : Nat) (v : Value) (T : List Tx) (vs : List Value) (w : World) (h : TextsIs w B v T vs) (hn : T.length ≤ 60) (hs : ∀ t ∈ T, t.2.length ≤ 60) :
    Calls Tryz.prog 123 #[v] w fun e w' => ∃ M iv tv, e = .returned (.agg #[iv, tv, .map (some M)]) ∧ w'.ownsRow w.heap.size 3 1 iv T.length (intV (T.map Prod.fst)) ∧ w'.ownsRow w.heap.size 9 1 tv (termsOf T).length (strV (termsOf T)) ∧ MapIs w' M (cntTo (rowsOf T) T.length) (upTo (rowsOf T) T.length 0) ∧ w.heap.size ≤ M ∧ Kp [] w w' := by
  have hmm := @run_makeMap Tryz.prog
  obtain ⟨i3, hi3, hy0, hy1, hy2⟩ := info_parts info3
  obtain ⟨i9, hi9, hz0, hz1, hz2⟩ := info_parts Tryz.info9
  obtain ⟨a, cap, rfl, ha⟩ := owns_forms h.row
  have hall := allW_len T hs
  have HH := hide h
  have HS := hide hs
  have Hall := hide hall
  clear h hs hall
  go_enter Tryz.func123, Tryz.ntmps123
  go_wp2_with fail
  obtain ⟨W, hW⟩ : ∃ W, ((w.alloc (.cells #[.slice none 0 0, .slice none 0 0, .map none] 105)).alloc (.map #[] 0)).alloc (.cells #[.slice none 0 0, .slice none 0 0, .map (some (w.heap.size + 1))] 105) = W := ⟨_, rfl⟩
  rw [hW]
  have k0 : Kp [] w W := by rw [← hW]; exact (((Kp.refl _ _).alloc _).alloc _).alloc _
  have hsz0 : W.heap.size = w.heap.size + 3 := by rw [← hW]; simp
  have hT0 : W.heap[w.heap.size]? = some (.cells #[.slice none 0 0, .slice none 0 0, .map none] 105 (0, 0)) := by
    rw [← hW, Below.heap_alloc _ _ _ (by simp; omega), Below.heap_alloc _ _ _ (by simp)]; exact heap_alloc_new w _
  have hM0 : MapIs W (w.heap.size + 1) 0 no := by
    have h1 := mapIs_made (w.alloc (.cells #[.slice none 0 0, .slice none 0 0, .map none] 105))
    simp only [World.size_alloc] at h1
    exact MapIs.kp (S := []) h1 (by rw [← hW]; exact (Kp.refl _ _).alloc _) (by simp)
  have hB0 : W.heap[w.heap.size + 2]? = some (.cells #[.slice none 0 0, .slice none 0 0, .map (some (w.heap.size + 1))] 105 (0, 0)) := by
    rw [← hW]
    have := heap_alloc_new ((w.alloc (.cells #[.slice none 0 0, .slice none 0 0, .map none] 105)).alloc (.map #[] 0)) (.cells #[.slice none 0 0, .slice none 0 0, .map (some (w.heap.size + 1))] 105)
    simpa using this
  obtain ⟨M, hME⟩ : ∃ M, w.heap.size + 1 = M := ⟨_, rfl⟩
  obtain ⟨TB, hTBE⟩ : ∃ TB, w.heap.size + 2 = TB := ⟨_, rfl⟩
  rw [hTBE] at hB0
  rw [hME] at hB0 hM0
  have e1 : w.heap.size + 1 + 1 = TB := hTBE
  rw [e1, hME]
  have hm1 : w.heap.size < M := by omega
  have hm2 : M < TB := by omega
  have hm3 : TB < W.heap.size := by omega
  clear hME hTBE e1
  have HT0 := hide hT0
  have HM0 := hide hM0
  have HB0 := hide hB0
  clear hT0 hM0 hB0 hW hmm hsz0
  go_loopw [14] (fun kv wr => ∃ (k : Nat) (ai : Option Addr) (ci : Nat) (at' : Option Addr) (ct : Nat), k ≤ T.length ∧ kv = .int .i64 k ∧ wr.heap[TB]? = some (.cells #[.slice ai k ci, .slice at' (allW (T.take k)).length ct, .map (some M)] 105 (0, 0)) ∧ wr.ownsRow w.heap.size 3 1 (.slice ai k ci) k (intV ((T.map Prod.fst).take k)) ∧ wr.ownsRow w.heap.size 9 1 (.slice at' (allW (T.take k)).length ct) (allW (T.take k)).length (strV (allW (T.take k)))
      ∧ MapIs wr M 0 no ∧ wr.heap[w.heap.size]? = some (.cells #[.slice none 0 0, .slice none 0 0, .map none] 105 (0, 0)) ∧ TB < wr.heap.size ∧ Kp [] w wr) (fun kv _ => T.length - (intOf kv).toNat)
  case atStart => exact ⟨0, none, 0, none, 0, by omega, rfl, HB0.out, World.ownsRow_nil _ _ _ _, World.ownsRow_nil _ _ _ _, HM0.out, HT0.out, hm3, k0⟩
  case round =>
    clear HT0 HM0 HB0 k0 hm3
    obtain ⟨k, ai, ci, at', ct, hk, rfl, hB, hoi, hot, hm, hT, hsz, hkp⟩ := hrel
    by_cases hlt : k < T.length
    · obtain ⟨g, rfl⟩ := ha (by omega)
      have hh := HH.out.kp0 hkp
      have hkv : k < vs.length := by rw [hh.len]; exact hlt
      obtain ⟨q0, q1⟩ := hh.cells k hlt hkv
      have he := hh.each k hlt hkv
      have hvlt := (HH.out.each k hlt hkv).lt
      obtain ⟨av, cv, ev, _⟩ := owns_forms he
      rw [ev] at q1 he hvlt
      have hsk := HS.out T[k] (List.getElem_mem hlt)
      have hsnT := take_snocL T k hlt
      have hsnI : (T.map Prod.fst).take (k + 1) = (T.map Prod.fst).take k ++ [T[k].1] := by
        rw [take_snocL _ k (by simpa using hlt)]; simp
      have haw : allW (T.take (k + 1)) = allW (T.take k) ++ T[k].2 := by rw [hsnT, allW_snoc]
      have hal := allW_len (T.take k) (fun t ht => HS.out t (List.mem_of_mem_take ht))
      have htl : (T.take k).length = k := by simp; omega
      rw [htl] at hal
      obtain ⟨t, ht⟩ : ∃ t, T[k] = t := ⟨_, rfl⟩
      rw [ht] at q0 q1 he hsk hsnI haw hvlt
      obtain ⟨id, ws⟩ := t
      simp only at q0 q1 he hsk hsnI haw hvlt
      obtain ⟨W1, hW1⟩ : ∃ W1, wr.alloc (.cells #[.int .i64 (id : Int), .slice av ws.length cv] 50) = W1 := ⟨_, rfl⟩
      have kW : Kp [] wr W1 := by rw [← hW1]; exact (Kp.refl _ _).alloc _
      have hx : W1.heap[wr.heap.size]? = some (.cells #[.int .i64 (id : Int), .slice av ws.length cv] 50 (0, 0)) := by rw [← hW1]; exact heap_alloc_new wr _
      have hsW : W1.heap.size = wr.heap.size + 1 := by rw [← hW1]; simp
      have HsW := hide hsW
      obtain ⟨p0, p1, _, _⟩ := rd_cells hx
      obtain ⟨m, hmE⟩ : ∃ m, (allW (T.take k)).length = m := ⟨_, rfl⟩
      rw [hmE] at hB hot hal
      have hB1 := kW.heap hB (by simp)
      obtain ⟨c0, c1, c2, gz0, gz1, gz2⟩ := tb_cells hB1
      have hoi1 := kW.owns hoi (by simp)
      have hot1 := kW.owns hot (by simp)
      have hm1' := hm.kp kW (by simp)
      have hT1 := kW.heap hT (by simp)
      have he1 := kW.owns he (by simp)
      have hkW := hkp.next kW
      have HX := hide hx
      have HOI := hide hoi1
      have HOT := hide hot1
      have HM := hide hm1'
      have HT := hide hT1
      have HB1 := hide hB1
      have HE := hide he1
      have HsnI := hide hsnI
      have Haw := hide haw
      have HmE := hide hmE
      have Hvlt := hide hvlt
      clear hx hoi hot hm hT hB1 hB he hsnI haw hmE hvlt hh ht ev hsnT htl hsW hoi1 hot1 hm1' hT1 he1
      go_wp2_with (first
        | (at_builtin; refine wpList_append_own_at _ rfl _ _ 59 rfl w.heap.size 3 i3 (.int .i64 0) 1 8 Tryz.underlying59 hi3 hy0 hy1 hy2 rfl (by decide) _ _ _ rfl (HOI.out.alloc _) ⟨W1.heap.size, 0, none⟩ 1 1 [.int .i64 (id : Int)] rfl rfl (one_new _ _ _) (one_cell _ _) ?c3 ?c4 ?c5 ?_)
        | fail)
      case c3 => unfold maxLen; omega
      case c4 => omega
      case c5 => have := HsW.out; simp; omega
      intro v2 w2 hown2 hgrow2 _ _
      obtain ⟨a2, ci2, rfl, _⟩ := owns_forms hown2
      have k2 : Kp (Value.slice ai k ci).ownBlock.toList W1 w2 := ((Kp.refl _ W1).alloc _).grown hgrow2 (fun j hj => .inl (by simp [hj]))
      have hnB := owns_ne HOI.out HB1.out (by decide)
      have hnX := owns_ne HOI.out HX.out (by decide)
      have hnT := owns_ne HOI.out HT.out (by decide)
      have hnM := owns_ne_map HOI.out HM.out
      have hB2 := k2.heap HB1.out (fun hx => hnB (by simpa using hx))
      have hX2 := k2.heap HX.out (fun hx => hnX (by simpa using hx))
      have hT2 := k2.heap HT.out (fun hx => hnT (by simpa using hx))
      have hM2 := HM.out.kp k2 (fun hx => hnM (by simpa using hx))
      have hot2 := k2.owns HOT.out (fun g' hg' hx => owns_disj HOT.out HOI.out (by decide) g' hg' (by simpa using hx))
      have he2 := k2.owns HE.out (fun g' hg' hx => owns_disj HE.out HOI.out (by decide) g' hg' (by simpa using hx))
      have hk2 : Kp [] w w2 := hkW.trans k2 (fun x hx => .inr (HOI.out.lt x (by simpa using hx)).1)
      have hsz2 := k2.size
      obtain ⟨d0, d1, d2, xz0, xz1, xz2⟩ := tb_cells hB2
      obtain ⟨r0, r1, _, _⟩ := rd_cells hX2
      have k3 : Kp [TB] w2 (w2.setCell ⟨TB, 0, none⟩ (.slice a2 (k + 1) ci2)) := (Kp.refl _ _).setCell (.inl (by simp)) _
      have hB3 : (w2.setCell ⟨TB, 0, none⟩ (.slice a2 (k + 1) ci2)).heap[TB]? = some (.cells #[.slice a2 (k + 1) ci2, .slice at' m ct, .map (some M)] 105 (0, 0)) := by
        rw [heap_setCell_same w2 TB 0 _ 105 _ hB2]; rfl
      have hoi3 := k3.owns hown2 (fun g' hg' hx => by simp at hx; subst hx; exact owns_ne hown2 hB2 (by decide) hg')
      have hot3 := k3.owns hot2 (fun g' hg' hx => by simp at hx; subst hx; exact owns_ne hot2 hB2 (by decide) hg')
      have he3 := k3.owns he2 (fun g' hg' hx => by simp at hx; subst hx; exact owns_ne he2 hB2 (by decide) hg')
      have hM3 := hM2.kp k3 (by simp; omega)
      have hT3 := k3.heap hT2 (by simp; omega)
      have hk3 : Kp [] w (w2.setCell ⟨TB, 0, none⟩ (.slice a2 (k + 1) ci2)) := hk2.trans k3 (by simp; omega)
      have HB3 := hide hB3
      have HOI3 := hide hoi3
      have HOT3 := hide hot3
      have HE3 := hide he3
      have HM3 := hide hM3
      have HT3 := hide hT3
      clear hB2 hX2 hT2 hM2 hot2 he2 hown2 hgrow2 hB3 hoi3 hot3 he3 hM3 hT3 p0 p1 c0 c1 c2 gz0 gz1 gz2 hnB hnX hnT hnM q0 q1
      go_wp2_with (first
        | (at_builtin; refine wpList_append_src _ rfl _ _ 37 rfl w.heap.size 9 i9 (.string ⟨#[]⟩) 1 16 Tryz.underlying37 hi9 hz0 hz1 hz2 rfl (by decide) _ _ _ rfl HOT3.out _ B _ _ rfl HE3.out (words_oneCell _) ?c3 ?c4 ?c5 ?_)
        | fail)
      case c3 => unfold maxLen; omega
      case c4 => omega
      case c5 => have := HsW.out; simp [World.setCell]; omega
      intro v4 w4 hown4 hgrow4 _
      obtain ⟨a4, ct4, rfl, _⟩ := owns_forms hown4
      have k4 : Kp (Value.slice at' m ct).ownBlock.toList (w2.setCell ⟨TB, 0, none⟩ (.slice a2 (k + 1) ci2)) w4 := (Kp.refl _ _).grown hgrow4 (fun j hj => .inl (by simp [hj]))
      have hnB := owns_ne HOT3.out HB3.out (by decide)
      have hnT := owns_ne HOT3.out HT3.out (by decide)
      have hnM := owns_ne_map HOT3.out HM3.out
      have hB4 := k4.heap HB3.out (fun hx => hnB (by simpa using hx))
      have hT4 := k4.heap HT3.out (fun hx => hnT (by simpa using hx))
      have hM4 := HM3.out.kp k4 (fun hx => hnM (by simpa using hx))
      have hoi4 := k4.owns HOI3.out (fun g' hg' hx => owns_disj HOI3.out HOT3.out (by decide) g' hg' (by simpa using hx))
      have hk4 : Kp [] w w4 := hk3.trans k4 (fun x hx => .inr (HOT3.out.lt x (by simpa using hx)).1)
      obtain ⟨d0', d1', d2', xz0', xz1', xz2'⟩ := tb_cells hB4
      have k5 : Kp [TB] w4 (w4.setCell ⟨TB, 1, none⟩ (.slice a4 (m + ws.length) ct4)) := (Kp.refl _ _).setCell (.inl (by simp)) _
      have hB5 : (w4.setCell ⟨TB, 1, none⟩ (.slice a4 (m + ws.length) ct4)).heap[TB]? = some (.cells #[.slice a2 (k + 1) ci2, .slice a4 (m + ws.length) ct4, .map (some M)] 105 (0, 0)) := by
        rw [heap_setCell_same w4 TB 1 _ 105 _ hB4]; rfl
      have hoi5 := k5.owns hoi4 (fun g' hg' hx => by simp at hx; subst hx; exact owns_ne hoi4 hB4 (by decide) hg')
      have hot5 := k5.owns hown4 (fun g' hg' hx => by simp at hx; subst hx; exact owns_ne hown4 hB4 (by decide) hg')
      have hM5 := hM4.kp k5 (by simp; omega)
      have hT5 := k5.heap hT4 (by simp; omega)
      have hk5 : Kp [] w (w4.setCell ⟨TB, 1, none⟩ (.slice a4 (m + ws.length) ct4)) := hk4.trans k5 (by simp; omega)
      have hsz5 : TB < (w4.setCell ⟨TB, 1, none⟩ (.slice a4 (m + ws.length) ct4)).heap.size := heap_lt hB5
      have HB5 := hide hB5
      have HOI5 := hide hoi5
      have HOT5 := hide hot5
      have HM5 := hide hM5
      have HT5 := hide hT5
      clear hB4 hT4 hM4 hoi4 hown4 hgrow4 hB5 hoi5 hot5 hM5 hT5 d0 d1 d2 xz0 xz1 xz2 r0 r1 hnB hnT hnM
      go_wp2_with fail
      go_roundw
      case rel =>
        refine ⟨k + 1, a2, ci2, a4, ct4, by omega, by go_num, ?_, ?_, ?_, HM5.out, HT5.out, hsz5, hk5⟩
        · rw [Haw.out, List.length_append, HmE.out]; exact HB5.out
        · rw [HsnI.out, intV_one]; exact HOI5.out
        · rw [Haw.out, List.length_append, HmE.out]
          have e : strV (allW (T.take k) ++ ws) = strV (allW (T.take k)) ++ strV ws := by simp [strV]
          rw [e]
          exact HOT5.out
      case measure => simp [intOf]; omega
    · have ek : k = T.length := by omega
      subst ek
      rw [List.take_length] at hB hot
      have hfst : (T.map Prod.fst).take T.length = T.map Prod.fst := List.take_of_length_le (by simp)
      rw [hfst] at hoi
      clear hfst
      obtain ⟨c0, c1, c2, gz0, gz1, gz2⟩ := tb_cells hB
      have hS := hide (sort_own w.heap.size _ (allW T) wr hot (by have := Hall.out; omega))
      have hnB := owns_ne hot hB (by decide)
      have hnT := owns_ne hot hT (by decide)
      have hnM := owns_ne_map hot hm
      have hdj := owns_disj hoi hot (by decide)
      have hlt' := hot.lt
      have HB := hide hB
      have HOI := hide hoi
      have HM := hide hm
      have HT := hide hT
      clear hB hoi hot hm hT
      go_wp2_with fail
      refine hS.out.mono ?_
      rintro e w7 ⟨rfl, hot7, hk7⟩
      have hB7 := hk7.heap HB.out (fun hx => hnB (by simpa using hx))
      have hT7 := hk7.heap HT.out (fun hx => hnT (by simpa using hx))
      have hM7 := HM.out.kp hk7 (fun hx => hnM (by simpa using hx))
      have hoi7 := hk7.owns HOI.out (fun g' hg' hx => hdj g' hg' (by simpa using hx))
      have hkw7 : Kp [] w w7 := hkp.trans hk7 (fun x hx => .inr (hlt' x (by simpa using hx)).1)
      obtain ⟨d0, d1, d2, xz0, xz1, xz2⟩ := tb_cells hB7
      have hml : ((allW T).mergeSort fun x y => decide (x ≤ y)).length = (allW T).length := by simp
      have hC := compact_own w.heap.size (.slice at' (allW T).length ct) ((allW T).mergeSort fun x y => decide (x ≤ y)) w7 (by rw [hml]; exact hot7) (by rw [hml]; have := Hall.out; omega) (compact_len _)
      have htE : Lib.compact ((allW T).mergeSort fun x y => decide (x ≤ y)) = termsOf T := rfl
      rw [htE] at hC
      have htlen : (termsOf T).length ≤ 3600 := by
        have h1 := compact_len ((allW T).mergeSort fun x y => decide (x ≤ y))
        rw [htE, hml] at h1
        have := Hall.out
        omega
      have HC := hide hC
      have HB7 := hide hB7
      have HOI7 := hide hoi7
      have HM7 := hide hM7
      have HT7 := hide hT7
      clear hC hB7 hoi7 hM7 hT7 hot7 hml htE c0 c1 c2 gz0 gz1 gz2 HB HOI HM HT hS
      go_wp2_with fail
      refine HC.out.mono ?_
      rintro e w8 ⟨v8, rfl, hot8, hown8, hk8⟩
      obtain ⟨a8, ct8, rfl, _⟩ := owns_forms hot8
      have hB8 := hk8.heap HB7.out (fun hx => hnB (by simpa using hx))
      have hT8 := hk8.heap HT7.out (fun hx => hnT (by simpa using hx))
      have hM8 := HM7.out.kp hk8 (fun hx => hnM (by simpa using hx))
      have hoi8 := hk8.owns HOI7.out (fun g' hg' hx => hdj g' hg' (by simpa using hx))
      have hkw8 : Kp [] w w8 := hkw7.trans hk8 (fun x hx => .inr (hlt' x (by simpa using hx)).1)
      obtain ⟨e0, e1, e2, yz0, yz1, yz2⟩ := tb_cells hB8
      have k9 : Kp [TB] w8 (w8.setCell ⟨TB, 1, none⟩ (.slice a8 (termsOf T).length ct8)) := (Kp.refl _ _).setCell (.inl (by simp)) _
      have hB9 : (w8.setCell ⟨TB, 1, none⟩ (.slice a8 (termsOf T).length ct8)).heap[TB]? = some (.cells #[.slice ai T.length ci, .slice a8 (termsOf T).length ct8, .map (some M)] 105 (0, 0)) := by
        rw [heap_setCell_same w8 TB 1 _ 105 _ hB8]; rfl
      have hoi9 := k9.owns hoi8 (fun g' hg' hx => by simp at hx; subst hx; exact owns_ne hoi8 hB8 (by decide) hg')
      have hot9 := k9.owns hot8 (fun g' hg' hx => by simp at hx; subst hx; exact owns_ne hot8 hB8 (by decide) hg')
      have hM9 := hM8.kp k9 (by simp; omega)
      have hT9 := k9.heap hT8 (by simp; omega)
      have hk9 : Kp [] w (w8.setCell ⟨TB, 1, none⟩ (.slice a8 (termsOf T).length ct8)) := hkw8.trans k9 (by simp; omega)
      obtain ⟨W9, hW9⟩ : ∃ W9, w8.setCell ⟨TB, 1, none⟩ (.slice a8 (termsOf T).length ct8) = W9 := ⟨_, rfl⟩
      rw [hW9] at hB9 hoi9 hot9 hM9 hT9 hk9
      have HB9 := hide hB9
      have HOI9 := hide hoi9
      have HOT9 := hide hot9
      have HM9 := hide hM9
      have HT9 := hide hT9
      clear hB8 hT8 hM8 hoi8 hot8 hB9 hoi9 hot9 hM9 hT9 d0 d1 d2 xz0 xz1 xz2 hdj hnB hnT hnM hlt' HB7 HOI7 HM7 HT7 HC
      go_wp2_with fail
      clear hW9 e0 e1 e2 yz0 yz1 yz2
      have hrl : (rowsOf T).length = T.length := by simp [rowsOf]
      have Hrl := hide hrl
      clear hrl
      go_loopw [41] (fun dv w10 => ∃ d : Nat, d ≤ T.length ∧ dv = .int .i64 d ∧ MapIs w10 M (cntTo (rowsOf T) d) (upTo (rowsOf T) d 0) ∧ w10.heap[TB]? = some (.cells #[.slice ai T.length ci, .slice a8 (termsOf T).length ct8, .map (some M)] 105 (0, 0)) ∧ w10.heap[w.heap.size]? = some (.cells #[.slice none 0 0, .slice none 0 0, .map none] 105 (0, 0)) ∧ Kp [M] W9 w10 ∧ cntTo (rowsOf T) d ≤ 60 * d) (fun dv _ => T.length - (intOf dv).toNat)
      case atStart => exact ⟨0, by omega, rfl, by rw [upTo_zero]; exact HM9.out, HB9.out, HT9.out, Kp.refl _ _, by simp [cntTo]⟩
      case round =>
        obtain ⟨d, hd, rfl, hm, hB, hT, hk10, hcn⟩ := hrel
        have hkp10 : Kp [] w wr := hk9.trans hk10 (by simp; omega)
        by_cases hlt : d < T.length
        · obtain ⟨g, rfl⟩ := ha (by omega)
          have hh := HH.out.kp0 hkp10
          have hdv : d < vs.length := by rw [hh.len]; exact hlt
          obtain ⟨q0, q1⟩ := hh.cells d hlt hdv
          have he := hh.each d hlt hdv
          have hvlt := (HH.out.each d hlt hdv).lt
          obtain ⟨av, cv, ev, hav⟩ := owns_forms he
          rw [ev] at q1 he hvlt
          have hsk := HS.out T[d] (List.getElem_mem hlt)
          have haw := allW_mem T d hlt
          have hdr : d < (rowsOf T).length := by rw [Hrl.out]; exact hlt
          have hrd : (rowsOf T)[d] = T[d].2.map (bsIx (termsOf T)) := by simp [rowsOf]
          obtain ⟨t, ht⟩ : ∃ t, T[d] = t := ⟨_, rfl⟩
          rw [ht] at q0 q1 he hsk haw hrd hav hvlt
          obtain ⟨id, ws⟩ := t
          simp only at q0 q1 he hsk haw hrd hav hvlt
          obtain ⟨W1, hW1⟩ : ∃ W1, wr.alloc (.cells #[.int .i64 (id : Int), .slice av ws.length cv] 50) = W1 := ⟨_, rfl⟩
          have kW : Kp [] wr W1 := by rw [← hW1]; exact (Kp.refl _ _).alloc _
          have hx : W1.heap[wr.heap.size]? = some (.cells #[.int .i64 (id : Int), .slice av ws.length cv] 50 (0, 0)) := by rw [← hW1]; exact heap_alloc_new wr _
          obtain ⟨p0, p1, _, _⟩ := rd_cells hx
          have hm1' := hm.kp kW (by simp)
          have hB1 := kW.heap hB (by simp)
          have hT1 := kW.heap hT (by simp)
          have he1 := kW.owns he (by simp)
          have HM := hide hm1'
          have HB := hide hB1
          have HT := hide hT1
          have HE := hide he1
          have HRD := hide hrd
          have hk1 : Kp [M] W9 W1 := hk10.next (kW.mono (by simp))
          clear hm hB hT he hm1' hB1 hT1 he1 hrd hh ht ev hx
          go_wp2_with fail
          clear hW1
          go_loopw [49] (fun kv w11 => ∃ k : Nat, k ≤ ws.length ∧ kv = .int .i64 k ∧ MapIs w11 M (cntTo (rowsOf T) d + k) (upTo (rowsOf T) d k) ∧ w11.heap[TB]? = some (.cells #[.slice ai T.length ci, .slice a8 (termsOf T).length ct8, .map (some M)] 105 (0, 0)) ∧ Kp [M] W1 w11) (fun kv _ => ws.length - (intOf kv).toNat)
          case atStart => exact ⟨0, by omega, rfl, HM.out, HB.out, Kp.refl _ _⟩
          case round =>
            obtain ⟨k, hk, rfl, hm, hB, hk11⟩ := hrel
            by_cases hlt2 : k < ws.length
            · obtain ⟨gv, rfl⟩ := hav (by omega)
              have hev := hk11.owns HE.out (fun g' hg' hx => by
                simp at hx; subst hx
                exact owns_ne_map HE.out HM.out hg')
              have hcw := strs_cells hev rfl k hlt2
              have hot := (hk1.next hk11).owns HOT9.out (fun g' hg' hx => by
                simp at hx; subst hx
                exact owns_ne_map HOT9.out HM9.out hg')
              have hpos := terms_pos T (by omega)
              have hBS := fun w' (h' : w'.ownsRow w.heap.size 9 1 (.slice a8 (termsOf T).length ct8) (termsOf T).length (strV (termsOf T))) => bs_own w.heap.size (.slice a8 (termsOf T).length ct8) (termsOf T) ws[k] w' h' (by omega) hpos
              have hbl := bsIx_le (termsOf T) ws[k]
              have hkr : k < (rowsOf T)[d].length := by rw [HRD.out]; simpa using hlt2
              have hrk : (rowsOf T)[d][k] = bsIx (termsOf T) ws[k] := by simp [HRD.out]
              have hup := upTo_put (rowsOf T) d k hdr hkr
              rw [hrk] at hup
              obtain ⟨b0, b1, b2, _, _, _⟩ := tb_cells hB
              obtain ⟨x, hx⟩ : ∃ x, ws[k] = x := ⟨_, rfl⟩
              rw [hx] at hcw hBS hbl hup
              obtain ⟨ix, hix⟩ : ∃ ix, bsIx (termsOf T) x = ix := ⟨_, rfl⟩
              rw [hix] at hBS hbl hup
              have hM := hide hm
              have HBB := hide hB
              have HOT := hide hot
              have HBS := hide hBS
              have HUP := hide hup
              clear hm hB hot hBS hup hx hix hrk hkr hev
              go_wp2_with fail
              go_region_held3 (fun w' => w'.cell? ⟨TB, 2, none⟩ = some (.map (some M)) ∧ w'.cell? ⟨TB, 1, none⟩ = some (.slice a8 (termsOf T).length ct8)) (first | (exact ⟨s1, s2⟩) | (exact ⟨r1, r2⟩) | go_keep)
                ((go_at_call 86; refine (HBS.out wr.drew HOT.out.drew).mono ?_; rintro e w3 ⟨⟨b, rfl⟩, q, hw3⟩; have s1 : w3.cell? ⟨TB, 2, none⟩ = some (.map (some M)) := (by rw [hw3]; exact b2); have s2 : w3.cell? ⟨TB, 1, none⟩ = some (.slice a8 (termsOf T).length ct8) := (by rw [hw3]; exact b1); have hm3 : MapIs w3 M (cntTo (rowsOf T) d + k) (upTo (rowsOf T) d k) := (by rw [hw3]; exact MapIs.kp (S := []) hM.out (((Kp.refl _ _).drewN 1).drewN q) (by simp)); have k3 : Kp [M] wr w3 := (by rw [hw3]; exact ((Kp.refl _ _).drewN 1).drewN q); clear hw3; obtain ⟨w4, hst, hm4, hk4⟩ := hm3.store (by omega) d k ix (by omega) (by omega) (by omega); have r1 : w4.cell? ⟨TB, 2, none⟩ = some (.map (some M)) := hk4.cellv s1 (by simp; omega); have r2 : w4.cell? ⟨TB, 1, none⟩ = some (.slice a8 (termsOf T).length ct8) := hk4.cellv s2 (by simp; omega)))
              have kd4 : Kp [M] wr w4 := k3.next hk4
              rw [upTo_free] at hm4
              rw [HUP.out] at hm4
              have hB4 := kd4.heap HBB.out (by simp; omega)
              have HM4 := hide hm4
              have HB4 := hide hB4
              clear hm4 hB4 hst hm3 s1 s2 r1 r2 b0 b1 b2 hcw
              go_wp2_with fail
              go_roundw
              case rel => exact ⟨k + 1, by omega, by go_num, HM4.out, HB4.out, hk11.next kd4⟩
              case measure => simp [intOf]; omega
            · have ek : k = ws.length := by omega
              subst ek
              have hrln : (rowsOf T)[d].length = ws.length := by rw [HRD.out]; simp
              have hnx := upTo_next (rowsOf T) d hdr
              rw [hrln] at hnx
              rw [hnx] at hm
              have hcnt : cntTo (rowsOf T) (d + 1) = cntTo (rowsOf T) d + ws.length := by
                rw [cntTo, List.getD_eq_getElem?_getD, List.getElem?_eq_getElem hdr]
                show cntTo (rowsOf T) d + (rowsOf T)[d].length = _
                rw [hrln]
              have HM' := hide hm
              have HB' := hide hB
              have Hcnt := hide hcnt
              have hT' := hk11.heap HT.out (by simp; omega)
              have HT' := hide hT'
              clear hm hB hcnt hnx hrln hT'
              go_wp2_with fail
              go_roundw
              case rel => exact ⟨d + 1, by omega, by go_num, by rw [Hcnt.out]; exact HM'.out, HB'.out, HT'.out, hk1.next hk11, by rw [Hcnt.out]; omega⟩
              case measure => simp [intOf]; omega
        · have ed : d = T.length := by omega
          subst ed
          obtain ⟨b0, b1, b2, _, _, _⟩ := tb_cells hB
          obtain ⟨e0, e1, e2, fz0, fz1, fz2⟩ := tb_cells hT
          have hoi := hk10.owns HOI9.out (fun g' hg' hx => by
            simp at hx; subst hx
            exact owns_ne_map HOI9.out HM9.out hg')
          have hot := hk10.owns HOT9.out (fun g' hg' hx => by
            simp at hx; subst hx
            exact owns_ne_map HOT9.out HM9.out hg')
          have HM := hide hm
          have HT := hide hT
          have HOI := hide hoi
          have HOT := hide hot
          clear hm hB hT hoi hot
          go_wp2_with fail
          have ks : Kp [w.heap.size] wr (((wr.setCell ⟨w.heap.size, 0, none⟩ (.slice ai T.length ci)).setCell ⟨w.heap.size, 1, none⟩ (.slice a8 (termsOf T).length ct8)).setCell ⟨w.heap.size, 2, none⟩ (.map (some M))) := (((Kp.refl _ _).setCell (.inl (by simp)) _).setCell (.inl (by simp)) _).setCell (.inl (by simp)) _
          refine bodyPost_ret (v := .agg #[.slice ai T.length ci, .slice a8 (termsOf T).length ct8, .map (some M)]) (by simp [results, Tryz.results123, go_sem, e0, e1, e2]) rfl ⟨M, _, _, rfl, ?_, ?_, ?_, by omega, ?_⟩
          · exact ks.owns HOI.out (fun g' hg' hx => by simp at hx; subst hx; exact owns_ne HOI.out HT.out (by decide) hg')
          · exact ks.owns HOT.out (fun g' hg' hx => by simp at hx; subst hx; exact owns_ne HOT.out HT.out (by decide) hg')
          · exact HM.out.kp ks (by simp; omega)
          · exact hkp10.trans ks (by simp)
set_option maxHeartbeats 800000 in
set_option maxRecDepth 100000 in
theorem pread_good (a : Option Addr) (cap : Nat) (l : List UInt8) (ids : List Nat) (terms : List (List UInt8)) (c : Nat) (f : Nat → Nat → Option Nat) (rows : List (List Nat)) (w : World) (hv : Vw w w.heap.size a l) (hl : l.length ≤ 2000000) (hc : l.length ≤ cap) (hc2 : cap ≤ 9223372036854775807)
    (htab : tableF (unsealF l) = (ids, terms, c, f, some [])) (hr : RowsAre f rows terms.length) (hlen : rows.length = ids.length) (hn : ids.length ≤ 60) (hnt : terms.length ≤ 100000) (hcc : c ≤ 1000000000) (hsm : ∀ r ∈ rows, (wordsOf terms r).length ≤ 1000 ∧ sumL (wordsOf terms r) ≤ 2000000) :
    Calls Tryz.prog 26 #[.slice a l.length cap] w fun e w' => (mayB (ids.zip (rows.map (wordsOf terms))) c = false ∧ e = .returned (.tuple #[.slice none 0 0, .bool false]) ∨
      mayB (ids.zip (rows.map (wordsOf terms))) c = true ∧ ∃ v vs, e = .returned (.tuple #[v, .bool true]) ∧ TextsIs w' w.heap.size v (ids.zip (rows.map (wordsOf terms))) vs) ∧ Kp [] w w' := by
  have hU := hide (unseal_any a cap l w hv hl hc hc2)
  have hT := hide (fun R w' (h : Rd w' R w.heap.size (unsealF l)) (hB : w.heap.size ≤ w'.heap.size) => table_rd R w.heap.size (unsealF l) w' h hB)
  rw [htab] at hT
  simp only at hT
  obtain ⟨TT, hTT⟩ : ∃ TT, ids.zip (rows.map (wordsOf terms)) = TT := ⟨_, rfl⟩
  rw [hTT]
  have HTT := hide hTT
  clear hTT
  have HR := hide hr
  have Hlen := hide hlen
  have HS := hide hsm
  clear hr hlen hsm htab
  go_enter Tryz.func26, Tryz.ntmps26
  go_wp2_with fail
  refine hU.out.mono ?_
  rintro e w1 ⟨R, rfl, hr1, hk1⟩
  have HR1 := hide hr1
  have hsz1 := hk1.size
  clear hr1
  go_wp2_with fail
  refine (hT.out R w1 HR1.out hsz1).mono ?_
  rintro e w2 ⟨T, M, iv, tv, rfl, hr2, ht2, hb2⟩
  obtain ⟨ai, ci, ei, _⟩ := owns_forms ht2.ids
  obtain ⟨at', ct, et, _⟩ := owns_forms ht2.terms
  subst ei et
  have hsz2 := hb2.size
  obtain ⟨W, hW⟩ : ∃ W, w2.alloc (.cells #[.slice ai ids.length ci, .slice at' terms.length ct, .map (some M)] 105) = W := ⟨_, rfl⟩
  have kW : Kp [] w2 W := by rw [← hW]; exact (Kp.refl _ _).alloc _
  have hrW := hr2.kp kW (by simp) (by simp)
  have hD := hide (done_rd R w.heap.size (some []) W hrW)
  have hbW : W.heap[w2.heap.size]? = some (.cells #[.slice ai ids.length ci, .slice at' terms.length ct, .map (some M)] 105 (0, 0)) := by rw [← hW]; exact heap_alloc_new w2 _
  obtain ⟨b0, b1, b2, _, _, _⟩ := tb_cells hbW
  have hmW := ht2.map.kp kW (by simp)
  have hX := hide (texts_any M c w.heap.size f (.slice ai ids.length ci) (.slice at' terms.length ct) ids terms rows W hmW (kW.owns ht2.ids (by simp)) (kW.owns ht2.terms (by simp)) HR.out Hlen.out hn hnt)
  rw [HTT.out] at hX
  have HMW := hide hmW
  have HBW := hide hbW
  have hbel : Below w.heap.size w W := ((hk1.below (Nat.le_refl _) (by simp)).trans hb2).trans (kW.below (by omega) (by simp))
  simp only [decide_true] at hD
  clear hr2 ht2 hrW hmW hbW
  go_wp2_with fail
  clear hW
  refine hD.out.mono ?_
  rintro e w3 ⟨rfl, rfl⟩
  go_wp2_with fail
  refine hX.out.mono ?_
  rintro e w4 ⟨v, vs, rfl, ht4, hk4⟩
  obtain ⟨av, cv, ev, _⟩ := owns_forms ht4.row
  subst ev
  have hb4 := hk4.heap HBW.out (by simp)
  obtain ⟨d0, d1, d2, _, _, _⟩ := tb_cells hb4
  have hm4 := HMW.out.kp hk4 (by simp)
  have hlen4 := hm4.len
  have hzl : TT.length ≤ 1000 := by rw [← HTT.out]; simp [Hlen.out]; omega
  have hMB := hide (maybe_any w3.heap.size c _ _ vs w4 ht4 hzl hcc (by
    intro t ht
    rw [← HTT.out] at ht
    have := List.of_mem_zip ht
    obtain ⟨r, hr, he⟩ := List.mem_map.1 this.2
    rw [← he]
    exact HS.out r hr))
  have hsz3 := hbel.size
  have ht4' : TextsIs w4 w.heap.size (.slice av TT.length cv) TT vs := by
    refine ⟨ht4.len, ⟨ht4.row.1, ?_⟩, fun i h1 h2 => ⟨(ht4.each i h1 h2).1, ?_⟩, ht4.apart⟩
    · rcases ht4.row.2 with h' | ⟨g, cp, cur, e1, hb, rest⟩
      · exact .inl h'
      · exact .inr ⟨g, cp, cur, e1, by omega, rest⟩
    · rcases (ht4.each i h1 h2).2 with h' | ⟨g, cp, cur, e1, hb, rest⟩
      · exact .inl h'
      · exact .inr ⟨g, cp, cur, e1, by omega, rest⟩
  have HT4 := hide ht4'
  clear ht4 ht4' hb4 hm4 HS
  have HL4 := hide hlen4
  clear b0 b1 b2
  go_wp2_with fail
  refine hMB.out.mono ?_
  rintro e w5 ⟨rfl, hk5⟩
  have hbel5 : Below w.heap.size w w5 := hbel.trans ((hk4.next hk5).below (by omega) (by simp))
  cases hmb : mayB TT c
  · go_wp2_with fail
    go_ret2
    exact ⟨.inl ⟨hmb, rfl⟩, Kp.of_below [] hbel5⟩
  · go_wp2_with fail
    go_ret2
    exact ⟨.inr ⟨hmb, _, vs, rfl, HT4.out.kp0 hk5⟩, Kp.of_below [] hbel5⟩

set_option maxHeartbeats 800000 in
set_option maxRecDepth 100000 in
theorem read_good (a : Option Addr) (cap : Nat) (l : List UInt8) (ids : List Nat) (terms : List (List UInt8)) (c : Nat) (f : Nat → Nat → Option Nat) (rows : List (List Nat)) (w : World) (hv : Vw w w.heap.size a l) (hl : l.length ≤ 2000000) (hc : l.length ≤ cap) (hc2 : cap ≤ 9223372036854775807)
    (htab : tableF (unsealF l) = (ids, terms, c, f, some [])) (hr : RowsAre f rows terms.length) (hlen : rows.length = ids.length) (hn : ids.length ≤ 60) (hnt : terms.length ≤ 100000) (hcc : c ≤ 1000000000) (hsm : ∀ r ∈ rows, (wordsOf terms r).length ≤ 1000 ∧ sumL (wordsOf terms r) ≤ 2000000) (hmb : mayB (ids.zip (rows.map (wordsOf terms))) c = true) :
    Calls Tryz.prog 11 #[.slice a l.length cap] w fun e w' => ∃ v vs, e = .returned (.tuple #[v, .int .i64 0]) ∧ TextsIs w' w.heap.size v (ids.zip (rows.map (wordsOf terms))) vs ∧ Kp [] w w' := by
  have hP := hide (pread_good a cap l ids terms c f rows w hv hl hc hc2 htab hr hlen hn hnt hcc hsm)
  rw [hmb] at hP
  generalize ids.zip (rows.map (wordsOf terms)) = TT at *
  clear htab hr hsm hv hmb
  go_enter Tryz.func11, Tryz.ntmps11
  go_wp2_with fail
  refine hP.out.mono ?_
  rintro e w1 ⟨h | ⟨_, v, vs, rfl, ht⟩, hk1⟩
  · simp at h
  obtain ⟨av, cv, ev, _⟩ := owns_forms ht.row
  subst ev
  have HT := hide ht
  clear ht
  go_wp2_with fail
  go_ret2
  exact ⟨_, vs, rfl, HT.out, hk1⟩
end Go.Proofs.YtnffagpdnklnkaaGreatDoor.Pak
