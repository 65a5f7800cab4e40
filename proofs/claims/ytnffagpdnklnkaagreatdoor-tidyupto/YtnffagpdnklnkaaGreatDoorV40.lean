import Derived.Test.YtnffagpdnklnkaaGreatDoorV39
import Derived.Test.YtnffagpdnklnkaaGreatDoorV35
import Derived.Test.YtnffagpdnklnkaaGreatDoorV30
set_option linter.unusedVariables false
set_option linter.unusedSimpArgs false
set_option maxRecDepth 8000
namespace Go.Proofs.YtnffagpdnklnkaaGreatDoor.Pak
open Go.RowKit Go.Proofs.YtnffagpdnklnkaaGreatDoor Go.Proofs.YtnffagpdnklnkaaGreatDoor.Spl SiftM
theorem texts_low {w : World} {B B' : Nat} {v : Value} {T : List Tx} {vs : List Value} (h : TextsIs w B v T vs) (hB : B' ≤ B) : TextsIs w B' v T vs :=
  ⟨h.len, owns_low h.row hB, fun i h1 h2 => owns_low (h.each i h1 h2) hB, h.apart⟩
def PutPost (X B : Nat) (O : List Nat) (s : PSt) (Qs : List (PPt × Nat)) (w : World) (e : Ending) (w' : World) : Prop :=
  e = .returned (.tuple #[]) ∧ ∃ N pv next, PIs w' X B (grow O w w') (mrgP s Qs N pv next) ∧ ((N.map PPt.abs).flatMap DSg.live).Perm (((docsOf Qs).filter fun y => !y.2).map Prod.fst) ∧ (N = [] ∧ next = s.next ∨ ∃ t, N = [t] ∧ t.num = s.next ∧ next = s.next + 1 ∧ ∀ x ∈ t.T, ∃ y ∈ s.Ps, x ∈ y.T) ∧ Kp (X :: s.hb :: s.pv.ownBlock.toList) w w'
set_option maxHeartbeats 4000000 in
theorem mput_any (X B Bm m : Nat) (O : List Nat) (s : PSt) (Qs : List (PPt × Nat)) (w : World) (h : PIs w X B O s) (hk : StkOk s.Ps Qs) (hm : MrgIs w Bm m (Qs.map fun x => (x.1.p, x.2))) (hne : Qs ≠ []) (hQ : Qs.length ≤ 1000) (hTab : Tab64 w) (hB0 : 1 < B) (hO0 : 1 ∉ O) (hnx : s.next < 1000000) :
    Calls Tryz.prog 73 #[.pointer (some ⟨X, 0, none⟩), .pointer (some ⟨m, 0, none⟩)] w fun e w' => PutPost X B O s Qs w e w' := by
  obtain ⟨i0, hi0, hz0, hz1, hz2⟩ := info_parts info52
  have hcnt := h.cnt
  obtain ⟨g, c, epv, hdel⟩ := delTaken_any X B Bm m O s Qs w h hk hm hne hQ (by omega)
  rw [epv] at hdel
  obtain ⟨x0, x6, x7, x8, x9, x10, xf⟩ := px_cells h
  rw [epv] at x8
  obtain ⟨cs0, hgt⟩ := owns_typed h.parts (g := g) (by rw [epv]; rfl)
  have hXg : X ≠ g := cells_ne h.blk hgt (by decide)
  obtain ⟨nk, hnk⟩ : ∃ nk, (keptL Qs s.Ps).length = nk := ⟨_, rfl⟩
  rw [hnk] at hdel
  have H := hide h
  have HNK := hide hnk
  have HE := hide epv
  have HGT := hide hgt
  clear h epv hnk hgt x0 x6 x7 x9 x10
  go_enter Tryz.func73, Tryz.ntmps73
  go_wp2_with fail
  refine hdel.mono ?_
  rintro e w1 ⟨rfl, k1, hrow1⟩
  have y8 := k1.cellv x8 (by simpa using hXg)
  have hX1 := k1.heap H.out.blk (by simpa using hXg)
  have yf : w1.frozen? ⟨X, 8, none⟩ = false := by simp [World.frozen?, hX1]
  obtain ⟨W2, hW2⟩ : ∃ W2, w1.setCell ⟨X, 8, none⟩ (.slice (some ⟨g, 0, none⟩) nk c) = W2 := ⟨_, rfl⟩
  have ks : Kp [X] w1 W2 := by rw [← hW2]; exact kp_set _ _ _ _
  have hX2 : W2.heap[X]? = some (.cells (pxC { s with pv := .slice (some ⟨g, 0, none⟩) nk c }) 72 (0, 0)) := by rw [← hW2, heap_setCell_same w1 X 8 _ 72 _ hX1, pxC_set8]
  have hrow2 := ks.owns hrow1 (fun y hy hx => by simp [Value.ownBlock] at hy; simp at hx; omega)
  have k2 : Kp [X, g] w W2 := (k1.mono (by simp)).next (ks.mono (by simp))
  have hS2 : ∀ u ∈ s.Ps, PartIs W2 u := fun u hu => (H.out.each u hu).kp k2 (by
    simp only [List.mem_cons, List.not_mem_nil, or_false, not_or]
    exact ⟨cells_ne (H.out.each u hu).cells H.out.blk (by decide), cells_ne (H.out.each u hu).cells HGT.out (by decide)⟩) (fun x hx => by
    simp at hx
    rcases hx with rfl | rfl
    · exact H.out.outX u hu
    · exact H.out.outP x (by rw [HE.out]; rfl) u hu)
  have hm2 : MrgIs W2 Bm m (Qs.map fun x => (x.1.p, x.2)) := hm.kp k2 (by
    obtain ⟨v, hv, _⟩ := hm
    simp only [List.mem_cons, List.not_mem_nil, or_false, not_or]
    exact ⟨cells_ne hv H.out.blk (by decide), cells_ne hv HGT.out (by decide)⟩) (fun x hx cs fr e9 => by
    simp at hx
    rcases hx with rfl | rfl
    · rw [H.out.blk] at e9; injection e9 with e9; injection e9 with _ e8; exact absurd e8 (by decide)
    · rw [HGT.out] at e9; injection e9 with e9; injection e9 with _ e8; exact absurd e8 (by decide))
  have hgO : g ∈ O := H.out.inP g (by rw [HE.out]; rfl)
  have hT2 : Tab64 W2 := hTab.kp k2 (by
    simp only [List.mem_cons, List.not_mem_nil, or_false, not_or]
    exact ⟨fun e => hO0 (by rw [e]; exact H.out.inX), fun e => hO0 (by rw [e]; exact hgO)⟩)
  have hlow := H.out.low
  have hz2' := k2.size
  have hdocs := docs_any m Bm Qs.length Qs W2 hm2 rfl hQ (List.length_pos_iff.2 hne) (fun x hx => ⟨hS2 _ (hk.mem x hx), Nat.le_trans (H.out.hiLe _ (hk.mem x hx)) k2.size, (hk.mask x hx).1⟩) hT2 (by omega)
  have HX2 := hide hX2
  have HROW2 := hide hrow2
  have HM2 := hide (H.out.hom.kp k2 (by
    obtain ⟨es, ck, hmap⟩ := H.out.hmap
    simp only [List.mem_cons, List.not_mem_nil, or_false, not_or]
    exact ⟨fun e => cells_map H.out.blk hmap e.symm, fun e => cells_map HGT.out hmap e.symm⟩))
  have HT2 := hide hT2
  clear hdel hX1 hX2 hrow1 hrow2 hS2 hm2 hT2
  go_wp2_with (simp only [hW2])
  refine hdocs.mono ?_
  rintro e W3 ⟨v, L, rfl, hmov, hperm, hsort, k3⟩
  obtain ⟨n, hn⟩ : ∃ n, L.length = n := ⟨_, rfl⟩
  obtain ⟨va, vc, ev, hva⟩ := owns_forms hmov.row
  rw [hn] at ev
  subst ev
  have hfine := fine_docs hk (fun t ht => (H.out.each t ht).fine) hperm hsort
  have hn60 : n ≤ 60 := by have := hfine.len; simp at this; omega
  have HMOV := hide hmov
  have HPERM := hide hperm
  have HFINE := hide hfine
  have HN := hide hn
  have HVA := hide hva
  clear hdocs hmov hperm hsort hfine hn hva
  go_wp2_with fail
  go_loopw [4, 5, 21] (fun v4 v5 v21 wr => ∃ (i dd : Nat) (ta : Option Addr) (tc : Nat), i ≤ n ∧ v4 = .slice ta i tc ∧ v5 = .int .u64 (dd : Int) ∧ v21 = .int .i64 (i : Int) ∧ Hid (TextsIs wr W2.heap.size (.slice ta i tc) ((L.take i).map fun x => x.1) ((L.take i).map mvW)) ∧ Hid (dd < 2 ^ i ∧ ∀ (d : Nat) (x : Mv), L[d]? = some x → d < i → dd.testBit d = x.2.1) ∧ Hid (Kp [] W3 wr) ∧ Hid (∀ y, (Value.slice ta i tc).ownBlock = some y → W3.heap.size ≤ y)) (fun _ _ v21 _ => n - (intOf v21).toNat)
  case atStart => exact ⟨0, 0, none, 0, by omega, rfl, rfl, rfl, TextsIs.nil _ _, ⟨by simp, fun d x _ hd => by omega⟩, Kp.refl _ _, fun y hy => by simp [Value.ownBlock] at hy⟩
  case round =>
    obtain ⟨i, dd, ta, tc, hi, rfl, rfl, rfl, hTX, hDD, hK, hLow⟩ := hrel
    have hddlt : dd < 18446744073709551616 := Nat.lt_of_lt_of_le hDD.out.1 (by
      have : 2 ^ i ≤ 2 ^ 60 := Nat.pow_le_pow_right (by omega) (by omega)
      omega)
    by_cases hlt : i < n
    · have hiL : i < L.length := by rw [HN.out]; exact hlt
      have hmovr : MovIs wr W2.heap.size (.slice va n vc) L := HMOV.out.kp hK.out (by simp)
      obtain ⟨gv, rfl⟩ := HVA.out (by omega)
      have hcell : ∀ j u, j < 3 → (encMv L[i])[j]? = some u → wr.cell? ⟨gv, i * 3 + j, none⟩ = some u := fun j u hj hu => by
        have := hmovr.row.cells (g := gv) rfl (i * 3 + j) u (by rw [movV_get L i hiL j hj]; exact hu)
        rwa [Addr.add_lit, Nat.zero_add] at this
      have htk : L.take (i + 1) = L.take i ++ [L[i]] := take_snocL L i hiL
      have heach := hmovr.each L[i] (List.getElem_mem hiL)
      have hapt : ∀ (j : Nat) (hj : j < ((L.take i).map mvW).length), ∀ g, (((L.take i).map mvW)[j]).ownBlock = some g → (mvW L[i]).ownBlock ≠ some g := fun j hj g hg => by
        have hj' : j < i := by simp at hj; omega
        have := List.pairwise_iff_getElem.1 hmovr.apart j i (by omega) hiL hj' g
        refine this ?_
        simpa using hg
      have hLi : L[i]? = some L[i] := List.getElem?_eq_getElem hiL
      obtain ⟨⟨⟨id, ws⟩, bt, wa, wn, wc⟩, hx⟩ : ∃ x, L[i] = x := ⟨_, rfl⟩
      rw [hx] at hcell htk heach hapt hLi
      have c0 := hcell 0 (.int .i64 (id : Int)) (by omega) rfl
      have c1 := hcell 1 (.slice wa wn wc) (by omega) rfl
      have c2 := hcell 2 (.bool bt) (by omega) rfl
      simp only [Nat.add_zero] at c0
      simp only [mvW] at heach hapt
      obtain ⟨W4, hW4⟩ : ∃ W4, wr.alloc (.cells #[.int .i64 (id : Int), .slice wa wn wc, .bool bt] 191) = W4 := ⟨_, rfl⟩
      have k4 : Kp [] wr W4 := by rw [← hW4]; exact (Kp.refl _ _).alloc _
      have hs4 : W4.heap.size = wr.heap.size + 1 := by rw [← hW4]; simp
      have hb4 : W4.heap[wr.heap.size]? = some (.cells #[.int .i64 (id : Int), .slice wa wn wc, .bool bt] 191 (0, 0)) := by rw [← hW4]; exact heap_alloc_new wr _
      have n0 : W4.cell? ⟨wr.heap.size, 0, none⟩ = some (.int .i64 (id : Int)) := by simp [World.cell?, hb4]
      have n1 : W4.cell? ⟨wr.heap.size, 1, none⟩ = some (.slice wa wn wc) := by simp [World.cell?, hb4]
      have hwith := fun W => with_any dd i W hddlt (by omega)
      have hz3 := hK.out.size
      have hz23 := k3.size
      have HTK := hide htk
      have HEA := hide heach
      have HAP := hide hapt
      have HLI := hide hLi
      have HB4 := hide hb4
      have hT4 : Hid (W4.ownsRow W2.heap.size 50 2 (.slice ta i tc) i (tx2 (((((L.take i).map fun x => x.1)).map Prod.fst).zip ((L.take i).map mvW)))) := by
        have := hTX.out.row
        rw [List.length_map, List.length_take, show min i L.length = i by omega] at this
        exact k4.owns this (by simp)
      have j1 : (0 : Int) ≤ (i : Int) := by omega
      have j2 : (i : Int) < (n : Int) := by omega
      have Hhs4 := hide hs4
      clear hcell htk heach hapt hLi hb4 hx hmovr hs4
      go_wp2_with (first
        | (simp only [hW4])
        | (at_builtin; refine wpList_append_own_at _ rfl _ _ 45 rfl W2.heap.size 50 i0 (.agg #[.int .i64 0, .slice none 0 0]) 2 32 Tryz.underlying45 hi0 hz0 hz1 hz2 rfl (by decide) _ _ _ rfl (hT4.out.alloc _) ⟨W4.heap.size, 0, none⟩ 1 1 [.int .i64 (id : Int), .slice wa wn wc] rfl rfl (World.news_of_block (cs := #[.int .i64 (id : Int), .slice wa wn wc]) (t := 50) (fr := (0, 0)) (heap_alloc_new W4 _)) ?c2 ?c3 ?c4 ?c5 ?_)
        | fail)
      case c2 => intro u hu; simp at hu; rcases hu with rfl | rfl <;> rfl
      case c3 => unfold maxLen; omega
      case c4 => omega
      case c5 => have h1 := Hhs4.out; simp; omega
      intro v' W6 hown6 hgrow6 _ hloc
      have hLow6 : Hid (∀ y, v'.ownBlock = some y → W3.heap.size ≤ y) := fun y hy => by
        rcases hloc with e | e
        · exact hLow.out y (e.symm.trans hy)
        · have h1 := Hhs4.out
          rw [e] at hy
          simp at hy
          omega
      have k46 : Kp (Value.slice ta i tc).ownBlock.toList W4 W6 := ((Kp.refl _ _).alloc _).grown hgrow6 (fun j hj => .inl (by rw [Option.mem_toList]; exact hj))
      have k6 : Kp (Value.slice ta i tc).ownBlock.toList wr W6 := (k4.mono (by simp)).next k46
      have hblt : ∀ y ∈ (Value.slice ta i tc).ownBlock.toList, W2.heap.size ≤ y ∧ y < wr.heap.size := fun y hy => hTX.out.row.lt y (by simpa using hy)
      have hb6 := k46.heap HB4.out (fun hx => by have := (hblt _ hx).2; omega)
      have n2 : W6.cell? ⟨wr.heap.size, 2, none⟩ = some (.bool bt) := by simp [World.cell?, hb6]
      have hTl : ((L.take i).map fun x => x.1).length = i := by rw [List.length_map, List.length_take]; have := HN.out; omega
      have hTX6 : TextsIs W6 W2.heap.size v' ((L.take (i + 1)).map fun x => x.1) ((L.take (i + 1)).map mvW) := by
        rw [HTK.out, List.map_append, List.map_append]
        refine hTX.out.snoc (S := []) (id := id) (ws := ws) (lv := .slice wa wn wc) HEA.out HAP.out ?_ k6
        rw [hTl]
        exact hown6
      obtain ⟨a2, c2', ev2, _⟩ := owns_forms hown6
      subst ev2
      have HTX6 := hide hTX6
      have hK6 : Hid (Kp [] W3 W6) := by
        show Kp [] W3 W6
        exact hK.out.trans k6 (fun y hy => .inr (hLow.out y (by simpa using hy)))
      clear hTX6 hown6 hgrow6 hb6 k46 hloc
      cases bt with
      | true =>
        go_wp2_with (refine (hwith W6).mono ?_; rintro e w' ⟨rfl, rfl⟩)
        go_roundw
        case measure => simp [intOf]; omega
        case rel =>
          refine ⟨i + 1, dd ||| 2 ^ i, a2, c2', by omega, rfl, rfl, by go_num, HTX6, ⟨?_, fun d x hx hd => ?_⟩, hK6, hLow6⟩
          · have h1 : dd < 2 ^ (i + 1) := Nat.lt_of_lt_of_le hDD.out.1 (Nat.pow_le_pow_right (by omega) (by omega))
            exact Nat.or_lt_two_pow h1 (Nat.pow_lt_pow_right (by omega) (by omega))
          · by_cases hdi : d = i
            · subst hdi
              rw [HLI.out] at hx
              cases hx
              simp
            · rw [Nat.testBit_or, Nat.testBit_two_pow_of_ne (fun e => hdi e.symm), Bool.or_false]
              exact hDD.out.2 d x hx (by omega)
      | false =>
        go_wp2_with fail
        go_roundw
        case measure => simp [intOf]; omega
        case rel =>
          refine ⟨i + 1, dd, a2, c2', by omega, rfl, rfl, by go_num, HTX6, ⟨Nat.lt_of_lt_of_le hDD.out.1 (Nat.pow_le_pow_right (by omega) (by omega)), fun d x hx hd => ?_⟩, hK6, hLow6⟩
          by_cases hdi : d = i
          · subst hdi
            rw [HLI.out] at hx
            cases hx
            exact Nat.testBit_lt_two_pow hDD.out.1
          · exact hDD.out.2 d x hx (by omega)
    · have hin : i = n := by omega
      subst hin
      have hltz : ¬ (i : Int) < (i : Int) := by omega
      have htake : L.take i = L := List.take_of_length_le (by rw [HN.out]; omega)
      rw [htake] at hTX
      have kW : Kp [X, g] w wr := (k2.next (k3.mono (by simp))).next (hK.out.mono (by simp))
      have k2r : Kp [] W2 wr := k3.next hK.out
      have hXr := k2r.heap HX2.out (by simp)
      have hrowr := k2r.owns HROW2.out (by simp)
      have hhomr := HM2.out.kp k2r (by simp)
      have hTr := HT2.out.kp k2r (by simp)
      have hsr := k2r.size
      have hflags : ∀ t : PPt, t.T = L.map (fun x => x.1) → t.dead = dd → t.abs.live = ((L.map fun x => (x.1, x.2.1)).filter fun y => !y.2).map Prod.fst := fun t hT hd => by
        have hfl : t.flags = L.map fun x => x.2.1 := by
          unfold PPt.flags
          apply List.ext_getElem
          · simp [hT]
          · intro d h1 h2
            have hdL : d < L.length := by simpa using h2
            simp only [List.getElem_map, List.getElem_range]
            rw [hd]
            exact hDD.out.2 d L[d] (List.getElem?_eq_getElem hdL) (by rw [← HN.out]; exact hdL)
        unfold DSg.live PPt.abs
        simp only
        rw [hT, hfl, List.zip_map']
      by_cases h0 : i = 0
      · subst h0
        have hL0 : L = [] := List.length_eq_zero_iff.1 HN.out
        have hN0 : (([] : List PPt).map PPt.abs |>.flatMap DSg.live).Perm (((docsOf Qs).filter fun y => !y.2).map Prod.fst) := by
          have h9 := HPERM.out
          rw [hL0] at h9
          rw [List.Perm.eq_nil (List.Perm.symm h9)]
          exact List.Perm.refl _
        have hp0 : ((homL (keptL Qs s.Ps)).map Prod.fst).Perm ((homL s.Ps).map Prod.fst) := by
          have h9 := put_live H.out.apart (fun t ht => (H.out.each t ht).fine.len) hk hN0
          rw [List.append_nil] at h9
          rw [homL_ids, homL_ids]; exact h9.map _
        have hnd : ((homL s.Ps).map Prod.fst).Nodup := (List.pairwise_append.1 H.out.nodup).2.1
        have hfin : PutPost X B O s Qs w (.returned (.tuple #[])) wr := by
          refine ⟨rfl, [], .slice (some ⟨g, 0, none⟩) nk c, s.next, mrgP_is H.out hk hN0 (.inl ⟨rfl, rfl⟩) ?_ ?_ ?_ ?_ ?_, hN0, .inl ⟨rfl, rfl⟩, ?_⟩
          · exact hXr
          · rw [List.append_nil, HNK.out]; exact hrowr
          · rw [List.append_nil, put_homes0 hnd hp0]
            have := hp0.length_eq
            simp only [List.length_map] at this
            rw [this]; exact hhomr
          · intro y hy
            left
            rw [HE.out]; simpa [Value.ownBlock] using hy
          · exact kW.mono (fun y hy => by rw [HE.out]; simp at hy; rcases hy with rfl | rfl <;> simp [Value.ownBlock])
          · exact kW.mono (fun y hy => by rw [HE.out]; simp at hy; rcases hy with rfl | rfl <;> simp [Value.ownBlock])
        have HFIN := hide hfin
        clear hfin hTX hXr hrowr hhomr hTr hN0 hp0 hnd hflags
        go_wp2_with fail
        go_end0
        exact HFIN.out
      · have hpos : (0 : Int) < (i : Int) := by omega
        have hdl : dd < 2 ^ (L.map fun x => x.1).length := by rw [List.length_map, HN.out]; exact hDD.out.1
        have hc60 : (homL s.Ps).length ≤ 1000000 := by have := H.out.all60; omega
        have hnk1 : (keptL Qs s.Ps).length ≤ 1000000 := by
          have : (keptL Qs s.Ps).length ≤ s.Ps.length := List.length_filter_le _ _
          omega
        have hlay := lay_any X B (homL s.Ps).length dd { s with pv := .slice (some ⟨g, 0, none⟩) nk c, Ps := keptL Qs s.Ps } (L.map fun x => x.1) (.slice ta i tc) (L.map mvW) (homF s.Ps) wr hXr (by rw [HNK.out]; exact hrowr) (texts_low hTX.out (by omega)) HFINE.out hhomr hTr hB0 (by omega) hnk1 hc60 (by simp only; omega) hdl
        have HDL := hide hdl
        have HFL := hide hflags
        clear hTX hXr hrowr hhomr hTr hflags hdl
        go_wp2_with fail
        refine hlay.mono ?_
        rintro e w' ⟨rfl, t, pv, ⟨htn, htT, htd⟩, hnew, hX', hP', hH', hpv', k'⟩
        have hlive := HFL.out t htT htd
        have hN1 : (([t] : List PPt).map PPt.abs |>.flatMap DSg.live).Perm (((docsOf Qs).filter fun y => !y.2).map Prod.fst) := by
          simp only [List.map_cons, List.map_nil, List.flatMap_cons, List.flatMap_nil, List.append_nil]
          rw [hlive]
          exact (HPERM.out.filter _).map _
        have hp1 : ((homL (keptL Qs s.Ps ++ [t])).map Prod.fst).Perm ((homL s.Ps).map Prod.fst) := by
          have h9 := put_live H.out.apart (fun t ht => (H.out.each t ht).fine.len) hk hN1
          rw [homL_ids, homL_ids]; exact h9.map _
        have hnd : ((homL s.Ps).map Prod.fst).Nodup := (List.pairwise_append.1 H.out.nodup).2.1
        have hph := put_homes (t := t) (by rw [htT]; exact HFINE.out.len) (by rw [htd]; exact hddlt) hnd hp1
        have hkf : Kp (X :: s.hb :: s.pv.ownBlock.toList) w w' := (kW.mono (fun y hy => by rw [HE.out]; simp at hy; rcases hy with rfl | rfl <;> simp [Value.ownBlock])).next (k'.mono (fun y hy => by rw [HE.out]; simpa [Value.ownBlock] using hy))
        have hold : ∀ x ∈ t.T, ∃ y ∈ s.Ps, x ∈ y.T := fun x hx => by
          rw [htT] at hx
          obtain ⟨y, hy, rfl⟩ := List.mem_map.1 hx
          obtain ⟨q, hq, hqx⟩ := docs_mem (y := (y.1, y.2.1)) (HPERM.out.mem_iff.1 (List.mem_map.2 ⟨y, hy, rfl⟩)) (fun x hx => (hk.mask x hx).1)
          exact ⟨q.1, hk.mem q hq, hqx⟩
        have hnw : NewPt w w' t := ⟨Nat.le_trans kW.size hnew.lo, hnew.hi, hnew.pl, hnew.ph, hnew.le, hnew.is⟩
        have hfin : PutPost X B O s Qs w (.returned (.tuple #[])) w' := by
          refine ⟨rfl, [t], pv, s.next + 1, mrgP_is H.out hk hN1 (.inr ⟨t, rfl, hnw, rfl⟩) ?_ ?_ ?_ ?_ hkf, hN1, .inr ⟨t, rfl, htn, rfl, hold⟩, hkf⟩
          · exact hX'
          · rw [List.length_append]
            have : ptV (keptL Qs s.Ps ++ [t]) = ptV (keptL Qs s.Ps) ++ [.pointer (some ⟨t.p, 0, none⟩)] := by simp [ptV]
            rw [this]
            exact hP'
          · rw [← hph.1, ← hph.2, htT, htd]
            exact hH'
          · intro y hy
            rcases hpv' y hy with h9 | h9
            · left; rw [HE.out]; simpa [Value.ownBlock] using h9
            · right
              have h8 := hnew.lo; have h7 := hnew.le; have h6 := kW.size
              exact ⟨by omega, fun u hu => by rw [List.mem_singleton.1 hu]; exact h9⟩
        have HFIN := hide hfin
        clear hfin hlay hX' hP' hH' hpv' hN1 hp1 hnd hph hlive hnew hnw
        go_wp2_with fail
        go_end0
        exact HFIN.out
def FinPost (X B : Nat) (O : List Nat) (s : PSt) (Qs : List (PPt × Nat)) (w : World) (e : Ending) (w' : World) : Prop :=
  e = .returned (.tuple #[.bool true, .int .i64 0]) ∧ ∃ N pv next, PIs w' X B (grow O w w') { mrgP s Qs N pv next with mv := mvV none } ∧ ((N.map PPt.abs).flatMap DSg.live).Perm (((docsOf Qs).filter fun y => !y.2).map Prod.fst) ∧ (N = [] ∧ next = s.next ∨ ∃ t, N = [t] ∧ t.num = s.next ∧ next = s.next + 1 ∧ ∀ x ∈ t.T, ∃ y ∈ s.Ps, x ∈ y.T) ∧ Kp (X :: s.hb :: s.pv.ownBlock.toList) w w'
set_option maxHeartbeats 1000000 in
/-- Finish, with a merge under way. -/
theorem finish_some (X B Bm m : Nat) (O : List Nat) (s : PSt) (Qs : List (PPt × Nat)) (w : World) (h : PIs w X B O s) (hmv : s.mv = mvV (some m)) (hk : StkOk s.Ps Qs) (hm : MrgIs w Bm m (Qs.map fun x => (x.1.p, x.2))) (hne : Qs ≠ []) (hQ : Qs.length ≤ 1000) (hTab : Tab64 w) (hB0 : 1 < B) (hO0 : 1 ∉ O) (hnx : s.next < 1000000) :
    Calls Tryz.prog 32 #[.pointer (some ⟨X, 0, none⟩)] w fun e w' => FinPost X B O s Qs w e w' := by
  have x6 := px_down h
  have x11 : w.cell? ⟨X, 11, none⟩ = some (mvV (some m)) := by simp [World.cell?, h.blk, pxC, pxA, hmv]
  have hput := mput_any X B Bm m O s Qs w h hk hm hne hQ hTab hB0 hO0 hnx
  clear h hmv hk hm hTab
  unfold mvV at x11
  go_enter Tryz.func32, Tryz.ntmps32
  go_wp2_with fail
  refine hput.mono ?_
  rintro e w1 ⟨rfl, N, pv, next, hP, hN, hnext, k1⟩
  have y11 : w1.cell? ⟨X, 11, none⟩ = some (mrgP s Qs N pv next).mv := by simp [World.cell?, hP.blk, pxC, pxA]
  have yf : w1.frozen? ⟨X, 11, none⟩ = false := by simp [World.frozen?, hP.blk]
  have ks := kp_set w1 X 11 (mvV none)
  have hXf : (w1.setCell ⟨X, 11, none⟩ (mvV none)).heap[X]? = some (.cells (pxC { mrgP s Qs N pv next with mv := mvV none }) 72 (0, 0)) := by
    rw [heap_setCell_same w1 X 11 _ 72 _ hP.blk, pxC_set11]
  have hgr : ∀ W : World, w1.heap.size = W.heap.size → grow O w W = grow O w w1 := fun W hW => by unfold grow; rw [hW]
  have hfin : FinPost X B O s Qs w (.returned (.tuple #[.bool true, .int .i64 0])) (w1.setCell ⟨X, 11, none⟩ (mvV none)) := by
    refine ⟨rfl, N, pv, next, ?_, hN, hnext, k1.next (ks.mono (by simp))⟩
    have h9 := hP.turnX (S := []) ks (by simp) rfl hXf
    rw [hgr _ (by simp)]
    exact h9
  have HF := hide hfin
  clear hput hfin hP ks hXf hgr
  unfold mvV at HF
  go_wp2_with fail
  go_ret2
  exact HF.out
/-- Finish, with none. -/
theorem finish_none (X B : Nat) (O : List Nat) (s : PSt) (w : World) (h : PIs w X B O s) (hmv : s.mv = mvV none) :
    Calls Tryz.prog 32 #[.pointer (some ⟨X, 0, none⟩)] w fun e w' => e = .returned (.tuple #[.bool false, .int .i64 0]) ∧ w' = w := by
  have x6 := px_down h
  have x11 : w.cell? ⟨X, 11, none⟩ = some (mvV none) := by simp [World.cell?, h.blk, pxC, pxA, hmv]
  clear h hmv
  unfold mvV at x11
  go_enter Tryz.func32, Tryz.ntmps32
  go_wp2_with fail
  go_ret2
  exact ⟨rfl, rfl⟩
/-- What a merge holds of parts, when it begins. -/
def stk0 (Qs : List PPt) : List (PPt × Nat) := Qs.map fun t => (t, aliveN t.T.length t.dead)
theorem docs_stk0 : ∀ (Qs : List PPt), (∀ t ∈ Qs, t.T.length ≤ 60 ∧ t.dead < 18446744073709551616) → (docsOf (stk0 Qs)).map (fun y => y.1.1) = (homL Qs).map Prod.fst
  | [], _ => rfl
  | t :: r, h => by
    have ih := docs_stk0 r (fun u hu => h u (List.mem_cons_of_mem _ hu))
    obtain ⟨a, b⟩ := h t (by simp)
    have he := homes_eq t a b
    have e1 : homL (t :: r) = t.homes ++ homL r := by simp [homL]
    have e2 : docsOf (stk0 (t :: r)) = docsOf [(t, aliveN t.T.length t.dead)] ++ docsOf (stk0 r) := by simp [stk0, docsOf]
    rw [e1, e2, List.map_append, List.map_append, ih, ← he]
    congr 1
    simp [docsOf, Function.comp_def]
theorem homL_sub {Qs Ps : List PPt} (h : Qs.Sublist Ps) : (homL Qs).Sublist (homL Ps) := by
  unfold homL
  induction h with
  | slnil => exact List.Sublist.refl _
  | cons a _ ih => simp only [List.flatMap_cons]; exact ih.trans (List.sublist_append_right _ _)
  | cons_cons a _ ih => simp only [List.flatMap_cons]; exact List.Sublist.append (List.Sublist.refl _) ih
theorem stk_start {w : World} {X B : Nat} {O : List Nat} {s : PSt} {Qs : List PPt} (h : PIs w X B O s) (hs : Qs.Sublist s.Ps) : StkOk s.Ps (stk0 Qs) := by
  have hf : ∀ t ∈ Qs, t.T.length ≤ 60 ∧ t.dead < 18446744073709551616 := fun t ht => ⟨(h.each t (hs.subset ht)).fine.len, (h.each t (hs.subset ht)).dlt⟩
  have hd := docs_stk0 Qs hf
  have hsub := (homL_sub hs).map Prod.fst
  refine ⟨fun x hx => ?_, ?_, fun x hx => ?_, ?_, ?_⟩
  · obtain ⟨t, ht, rfl⟩ := List.mem_map.1 hx
    exact hs.subset ht
  · unfold stk0
    rw [List.map_map]
    exact List.pairwise_map.2 (h.apart.sublist hs)
  · obtain ⟨t, ht, rfl⟩ := List.mem_map.1 hx
    obtain ⟨hl, hdl⟩ := hf t ht
    have hb := bits_alive t.T.length t.dead hl hdl
    refine ⟨?_, fun d hd hdd => ?_⟩
    · have h1 : aliveN t.T.length t.dead ≤ 2 ^ t.T.length - 1 := Nat.and_le_left
      have h2 : 1 ≤ 2 ^ t.T.length := Nat.one_le_two_pow
      simp only
      omega
    · have : d ∈ bitsOf (aliveN t.T.length t.dead) := by
        rw [hb]
        exact List.mem_filter.2 ⟨List.mem_range.2 hd, by simp only at hdd; simp [hdd]⟩
      exact (List.mem_filter.1 this).2
  · rw [hd]
    exact (List.pairwise_append.1 h.nodup).2.1.sublist hsub
  · have h1 := congrArg List.length hd
    have h2 := hsub.length_le
    have h3 := h.all60
    simp at h1 h2
    omega
/-- Parts that are kept: the merge holds them still. -/
theorem stk_kept {Ps Ps' : List PPt} (hk : KeptP Ps Ps') : ∀ (Qs : List (PPt × Nat)), (∀ x ∈ Qs, x.1 ∈ Ps) → (∀ x ∈ Qs, x.2 < 2 ^ x.1.T.length ∧ ∀ d, d < x.1.T.length → x.1.dead.testBit d = false → x.2.testBit d = true) →
    ∃ Qs' : List (PPt × Nat), (∀ x ∈ Qs', x.1 ∈ Ps') ∧ Qs'.map (fun x => (x.1.p, x.2)) = Qs.map (fun x => (x.1.p, x.2)) ∧ (∀ x ∈ Qs', x.2 < 2 ^ x.1.T.length ∧ ∀ d, d < x.1.T.length → x.1.dead.testBit d = false → x.2.testBit d = true) ∧ (docsOf Qs').map (fun y => y.1) = (docsOf Qs).map (fun y => y.1)
  | [], _, _ => ⟨[], by simp, rfl, by simp, rfl⟩
  | x :: r, hm, hb => by
    obtain ⟨Qs', h1, h2, h3, h4⟩ := stk_kept hk r (fun y hy => hm y (List.mem_cons_of_mem _ hy)) (fun y hy => hb y (List.mem_cons_of_mem _ hy))
    obtain ⟨t', ht', hp, hT, hd⟩ := hk x.1 (hm x (by simp))
    obtain ⟨hb1, hb2⟩ := hb x (by simp)
    refine ⟨(t', x.2) :: Qs', fun y hy => ?_, by simp [hp, h2], fun y hy => ?_, ?_⟩
    · rcases List.mem_cons.1 hy with rfl | hy
      · exact ht'
      · exact h1 y hy
    · rcases List.mem_cons.1 hy with rfl | hy
      · refine ⟨by simp only; rw [hT]; exact hb1, fun d hdl hdd => ?_⟩
        simp only at hdl hdd ⊢
        refine hb2 d (by rw [← hT]; exact hdl) ?_
        cases hq : x.1.dead.testBit d with
        | false => rfl
        | true => rw [hd d hq] at hdd; cases hdd
      · exact h3 y hy
    · rw [docs_cons (t', x.2), docs_cons x, List.map_append, List.map_append, h4]
      congr 1
      simp [docsOf, hT, Function.comp_def]
theorem StkOk.kept {Ps Ps' : List PPt} {Qs : List (PPt × Nat)} (h : StkOk Ps Qs) (hk : KeptP Ps Ps') : ∃ Qs' : List (PPt × Nat), StkOk Ps' Qs' ∧ Qs'.map (fun x => (x.1.p, x.2)) = Qs.map (fun x => (x.1.p, x.2)) := by
  obtain ⟨Qs', h1, h2, h3, h4⟩ := stk_kept hk Qs h.mem h.mask
  refine ⟨Qs', ⟨h1, ?_, h3, ?_, ?_⟩, h2⟩
  · have e := congrArg (List.map Prod.fst) h2
    rw [List.map_map, List.map_map] at e
    have := h.nd
    rw [show (Qs.map fun x => x.1.p) = Qs.map (Prod.fst ∘ fun x => (x.1.p, x.2)) from rfl, ← e] at this
    exact this
  · have e := congrArg (List.map Prod.fst) h4
    rw [List.map_map, List.map_map] at e
    have := h.ids
    rw [show ((docsOf Qs).map fun y => y.1.1) = (docsOf Qs).map (Prod.fst ∘ fun y => y.1) from rfl, ← e] at this
    exact this
  · have e := congrArg List.length h4
    have := h.len
    simp at e
    omega
/-- All that the law's world is made of. -/
structure TSt where
  s : PSt
  O : List Nat
  F : List Fl
  d : Nat
  M : Nat
  mo : Option Nat
  on : Bool
  sv : Value
  Bm : Nat
  Qs : List (PPt × Nat)
  tb : Nat
  wb : Nat
  th : List Bool
  vs : List Value
  wl : List (List (List UInt8))
  lst : Nat
structure MoOk (w : World) (t : TSt) (m : Nat) : Prop where
  blk : w.heap[m]? = some (.cells #[t.sv] 182 (0, 0))
  row : w.ownsRow t.Bm 185 2 t.sv t.Qs.length (stV (t.Qs.map fun x => (x.1.p, x.2)))
  stk : StkOk t.s.Ps t.Qs
  ne : t.Qs ≠ []
  few : t.Qs.length ≤ 1000
  mO : m ∉ t.O
  sO : ∀ g, t.sv.ownBlock = some g → g ∉ t.O
theorem MoOk.is {w : World} {t : TSt} {m : Nat} (h : MoOk w t m) : MrgIs w t.Bm m (t.Qs.map fun x => (x.1.p, x.2)) := ⟨t.sv, h.blk, by rw [List.length_map]; exact h.row⟩
structure TW (w : World) (B Wd X n : Nat) (t : TSt) : Prop where
  ix : PIs w X B t.O t.s
  fv : t.s.fv = pt t.d
  disk : DiskIs w B t.d t.M t.F
  MO : t.M ∉ t.O
  dO : t.d ∉ t.O
  FO : ∀ f ∈ t.F, ∀ g, f.v.ownBlock = some g → g ∉ t.O
  Olt : ∀ g ∈ t.O, g < w.heap.size
  OB : (∀ g ∈ t.O, B ≤ g) ∧ B ≤ t.M
  tabP : TabP w
  tab : Tab64 w
  h0 : 0 ∉ t.O
  h1 : 1 ∉ t.O
  hB : 1 < B
  lit : t.s.lit = false
  lw : LW w B Wd X t.tb t.wb t.on t.th t.vs t.wl
  lB : B ≤ Wd ∧ B ≤ t.tb ∧ B ≤ t.wb
  lO : Wd ∉ t.O ∧ t.tb ∉ t.O ∧ t.wb ∉ t.O
  vO : ∀ v ∈ t.vs, ∀ g, v.ownBlock = some g → g ∉ t.O
  mv : t.s.mv = mvV t.mo
  mrg : ∀ m, t.mo = some m → MoOk w t m
  dok : DOk (absF t.F) t.s.last t.s.abs
  buf : 1 ≤ t.s.buf ∧ t.s.buf ≤ 8 ∧ t.s.G.length < t.s.buf
  fac : 2 ≤ t.s.fac ∧ t.s.fac ≤ 4
  nx : t.s.next ≤ n
  lstE : t.s.last = t.lst
theorem LW.kp {S : List Nat} {w w' : World} {B Wd X tb wb : Nat} {on : Bool} {th : List Bool} {vs : List Value} {wl : List (List (List UInt8))} (h : LW w B Wd X tb wb on th vs wl) (k : Kp S w w') (h1 : Wd ∉ S ∧ tb ∉ S ∧ wb ∉ S) (h2 : ∀ v ∈ vs, ∀ g, v.ownBlock = some g → g ∉ S) : LW w' B Wd X tb wb on th vs wl :=
  ⟨k.heap h.blk h1.1, k.heap h.thb h1.2.1, k.heap h.wob h1.2.2, h.thl, h.vl, h.wll, fun i v l hv hl => k.owns (h.each i v l hv hl) (fun g hg => h2 v (List.mem_of_getElem? hv) g hg)⟩
theorem LW.lt {w : World} {B Wd X tb wb : Nat} {on : Bool} {th : List Bool} {vs : List Value} {wl : List (List (List UInt8))} (h : LW w B Wd X tb wb on th vs wl) : Wd < w.heap.size ∧ tb < w.heap.size ∧ wb < w.heap.size ∧ ∀ v ∈ vs, ∀ g, v.ownBlock = some g → g < w.heap.size := by
  refine ⟨heap_lt h.blk, heap_lt h.thb, heap_lt h.wob, fun v hv g hg => ?_⟩
  obtain ⟨i, hi, e⟩ := List.mem_iff_getElem.1 hv
  have hi' : i < wl.length := by rw [h.wll, ← h.vl]; exact hi
  have := h.each i v wl[i] (by rw [List.getElem?_eq_getElem hi, e]) (List.getElem?_eq_getElem hi')
  exact (this.lt g hg).2
theorem not_grow {O : List Nat} {w w' : World} {g : Nat} (h : g ∉ O) (hl : g < w.heap.size) : g ∉ grow O w w' := fun hx => by
  rcases mem_grow.1 hx with h1 | h1
  · exact h h1
  · omega
/-- A call that only the index's own blocks feel. -/
theorem TW.step {w w' : World} {B Wd X n n' : Nat} {t : TSt} {s' : PSt} (h : TW w B Wd X n t) (k : Kp t.O w w') (hP : PIs w' X B (grow t.O w w') s') (hr : Rest t.s s') (hd : DOk (absF t.F) t.s.last s'.abs) (hb : s'.G.length < s'.buf) (hn : s'.next ≤ n') :
    ∃ Qs', TW w' B Wd X n' { t with s := s', O := grow t.O w w', Qs := Qs' } := by
  obtain ⟨r1, r2, r3, r4, r5, r6, r7, r8, r9, r10⟩ := hr
  have hz := k.size
  obtain ⟨l1, l2, l3, l4⟩ := h.lw.lt
  have hMl := h.disk.map.lt
  have hdl := heap_lt h.disk.blk
  have h1w : 1 < w.heap.size := Nat.lt_of_lt_of_le h.hB h.ix.low
  obtain ⟨Qs', hQs⟩ : ∃ Qs', ∀ m, t.mo = some m → MoOk w' { t with s := s', O := grow t.O w w', Qs := Qs' } m := by
    cases hm : t.mo with
    | none => exact ⟨t.Qs, fun m e => by cases e⟩
    | some m =>
      have hM := h.mrg m hm
      obtain ⟨Qs', q1, q2⟩ := hM.stk.kept r10
      have ql : Qs'.length = t.Qs.length := by have := congrArg List.length q2; simpa using this
      refine ⟨Qs', fun m' e => ?_⟩
      cases e
      refine ⟨k.heap hM.blk hM.mO, ?_, q1, ?_, ?_, not_grow hM.mO (heap_lt hM.blk), fun g hg => not_grow (hM.sO g hg) (hM.row.lt g hg).2⟩
      · simp only
        rw [q2, ql]
        exact k.owns hM.row hM.sO
      · intro e
        simp only at e
        exact hM.ne (List.length_eq_zero_iff.1 (by rw [← ql, e]; rfl))
      · simp only
        rw [ql]; exact hM.few
  refine ⟨Qs', ⟨hP, ?_, ?_, not_grow h.MO hMl, not_grow h.dO hdl, fun f hf g hg => not_grow (h.FO f hf g hg) ((h.disk.each f hf).lt g hg).2, ?_, ?_, h.tabP.kp k h.h0, h.tab.kp k h.h1, not_grow h.h0 (by omega), not_grow h.h1 h1w, h.hB, ?_, ?_, ?_, ⟨not_grow h.lO.1 l1, not_grow h.lO.2.1 l2, not_grow h.lO.2.2 l3⟩, fun v hv g hg => not_grow (h.vO v hv g hg) (l4 v hv g hg), ?_, hQs, ?_, ?_, ?_, hn, r4.trans h.lstE⟩⟩
  · exact r3.trans h.fv
  · exact h.disk.kp k h.dO h.MO h.FO
  · intro g hg
    rcases mem_grow.1 hg with h9 | h9
    · exact Nat.lt_of_lt_of_le (h.Olt g h9) hz
    · exact h9.2
  · refine ⟨fun g hg => ?_, h.OB.2⟩
    rcases mem_grow.1 hg with h9 | h9
    · exact h.OB.1 g h9
    · exact Nat.le_trans h.ix.low h9.1
  · exact r5.trans h.lit
  · exact h.lw.kp k h.lO h.vO
  · exact h.lB
  · exact r7.trans h.mv
  · simp only
    rw [r4]; exact hd
  · simp only
    rw [r1] at hb ⊢
    exact ⟨h.buf.1, h.buf.2.1, hb⟩
  · simp only
    rw [r2]; exact h.fac
/-- Nothing of it is felt. -/
theorem TW.kp0 {w w' : World} {B Wd X n : Nat} {t : TSt} (h : TW w B Wd X n t) (k : Kp [] w w') : TW w' B Wd X n t :=
  ⟨h.ix.kp k (by simp), h.fv, h.disk.kp k (by simp) (by simp) (by simp), h.MO, h.dO, h.FO, fun g hg => Nat.lt_of_lt_of_le (h.Olt g hg) k.size, h.OB, h.tabP.kp k (by simp), h.tab.kp k (by simp), h.h0, h.h1, h.hB, h.lit, h.lw.kp k (by simp) (by simp), h.lB, h.lO, h.vO, h.mv,
    fun m hm => ⟨k.heap (h.mrg m hm).blk (by simp), k.owns (h.mrg m hm).row (by simp), (h.mrg m hm).stk, (h.mrg m hm).ne, (h.mrg m hm).few, (h.mrg m hm).mO, (h.mrg m hm).sO⟩, h.dok, h.buf, h.fac, h.nx, h.lstE⟩
/-- The law writes down what it knows. -/
theorem TW.law {w w' : World} {B Wd X n y : Nat} {t : TSt} {on : Bool} {th : List Bool} {vs : List Value} {wl : List (List (List UInt8))} (h : TW w B Wd X n t) (k : Kp [y] w w') (hy : y = Wd ∨ y = t.tb ∨ y = t.wb) (hl : LW w' B Wd X t.tb t.wb on th vs wl) (hv : ∀ v ∈ vs, ∀ g, v.ownBlock = some g → g ∉ t.O) :
    TW w' B Wd X n { t with on := on, th := th, vs := vs, wl := wl } := by
  obtain ⟨cs, ty, hyc, hty⟩ : ∃ cs ty, w.heap[y]? = some (.cells cs ty (0, 0)) ∧ (ty = 32 ∨ ty = 4 ∨ ty = 37) := by
    rcases hy with rfl | rfl | rfl
    · exact ⟨_, _, h.lw.blk, .inl rfl⟩
    · exact ⟨_, _, h.lw.thb, .inr (.inl rfl)⟩
    · exact ⟨_, _, h.lw.wob, .inr (.inr rfl)⟩
  have hyO : y ∉ t.O := by
    rcases hy with rfl | rfl | rfl
    · exact h.lO.1
    · exact h.lO.2.1
    · exact h.lO.2.2
  have hyB : B ≤ y := by
    rcases hy with rfl | rfl | rfl
    · exact h.lB.1
    · exact h.lB.2.1
    · exact h.lB.2.2
  have hB := h.hB
  have hO : ∀ x ∈ [y], x ∉ t.O := fun x hx => by rw [List.mem_singleton.1 hx]; exact hyO
  have hne : ∀ (g : Nat) (c2 : Array Value) (t2 : TypeId), t2 ≠ 32 → t2 ≠ 4 → t2 ≠ 37 → w.heap[g]? = some (.cells c2 t2 (0, 0)) → g ∉ [y] := fun g c2 t2 n1 n2 n3 hg hx => by
    rw [List.mem_singleton.1 hx, hyc] at hg
    injection hg with hg
    injection hg with _ e
    rcases hty with e2 | e2 | e2
    · exact n1 (e.symm.trans e2)
    · exact n2 (e.symm.trans e2)
    · exact n3 (e.symm.trans e2)
  have hrow : ∀ (e : TypeId) (b sz m : Nat) (v : Value) (xs : List Value), e ≠ 32 → e ≠ 4 → e ≠ 37 → w.ownsRow b e sz v m xs → ∀ g, v.ownBlock = some g → g ∉ [y] := fun e b sz m v xs n1 n2 n3 ho g hg => by
    obtain ⟨c2, hc2⟩ := owns_typed ho hg
    exact hne g c2 e n1 n2 n3 hc2
  have hM : t.M ∉ [y] := fun hx => by
    obtain ⟨es, ck, hm⟩ := h.disk.map.block
    rw [List.mem_singleton.1 hx, hyc] at hm; cases hm
  refine ⟨h.ix.kp k hO, h.fv, h.disk.kp k (hne _ _ _ (by decide) (by decide) (by decide) h.disk.blk) hM (fun f hf => hrow 5 _ _ _ _ _ (by decide) (by decide) (by decide) (h.disk.each f hf)), h.MO, h.dO, h.FO, fun g hg => Nat.lt_of_lt_of_le (h.Olt g hg) k.size, h.OB, h.tabP.kp k (by simp; omega), h.tab.kp k (by simp; omega), h.h0, h.h1, h.hB, h.lit, hl, h.lB, h.lO, hv, h.mv, fun m hm => ?_, h.dok, h.buf, h.fac, h.nx, h.lstE⟩
  have hM := h.mrg m hm
  exact ⟨k.heap hM.blk (hne _ _ _ (by decide) (by decide) (by decide) hM.blk), k.owns hM.row (hrow 185 _ _ _ _ _ (by decide) (by decide) (by decide) hM.row), hM.stk, hM.ne, hM.few, hM.mO, hM.sO⟩
end Go.Proofs.YtnffagpdnklnkaaGreatDoor.Pak
