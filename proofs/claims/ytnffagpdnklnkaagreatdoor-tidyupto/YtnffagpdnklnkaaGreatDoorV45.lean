import Derived.Test.YtnffagpdnklnkaaGreatDoorV44
set_option linter.unusedVariables false
set_option linter.unusedSimpArgs false
set_option maxRecDepth 8000
namespace Go.Proofs.YtnffagpdnklnkaaGreatDoor.Pak
open Go.RowKit Go.Proofs.YtnffagpdnklnkaaGreatDoor Go.Proofs.YtnffagpdnklnkaaGreatDoor.Spl SiftM
theorem fN_le (th : List Bool) (wl : List (List (List UInt8))) (D : List Tx) : fN th wl D ≤ 20 := by
  unfold fN
  have := List.length_filter_le (mkd th wl D) (List.range 20)
  simpa using this
theorem nm_cell {w : World} {b g n c : Nat} {l : List (List UInt8)} (h : w.ownsRow b 9 1 (.slice (some ⟨g, 0, none⟩) n c) n (nmL l)) (i : Nat) (hi : i < l.length) : w.cell? ⟨g, i, none⟩ = some (.string ⟨(l.getD i []).toArray⟩) := by
  have := h.cells (g := g) rfl i (nmV l[i]) (by simp [nmL, hi])
  rw [Addr.add_lit, Nat.zero_add] at this
  rw [this]
  unfold nmV
  simp [List.getD_eq_getElem?_getD, hi]
set_option maxHeartbeats 16000000 in
set_option maxRecDepth 100000 in
/-- Tidy. -/
theorem tidy_any (bI fI : Int) (a1 a2 : Option Addr) (l1 c1 l2 c2 : Nat) (w : World) (hT : TabP w) (hT64 : Tab64 w) (hw : 1 < w.heap.size)
    (h1 : -9223372036854775808 ≤ bI) (h2 : bI ≤ 9223372036854775807) (h3 : -9223372036854775808 ≤ fI) (h4 : fI ≤ 9223372036854775807)
    (hm1 : MovesAt w w.heap.size a1 l1) (hm2 : MovesAt w w.heap.size a2 l2) (hn : l1 + l2 < 999980) :
    Calls Tryz.prog 3 #[.int .i64 bI, .int .i64 fI, .slice a1 l1 c1, .slice a2 l2 c2] w fun e w' => e = .returned (.bool true) ∧ Below w.heap.size w w' := by
  have hbeg := beginT bI fI w hT hT64 hw h1 h2 h3 h4
  have hBw := Nat.le_refl w.heap.size
  obtain ⟨B, hB⟩ : ∃ B, w.heap.size = B := ⟨_, rfl⟩
  rw [hB] at hbeg hm1 hm2 ⊢
  obtain ⟨i0, hi0, hq0, hq1, hq2⟩ := info_parts Tryz.info9
  have HM1 := hide hm1
  have HM2 := hide hm2
  have HBw : Hid (B ≤ w.heap.size) := by show B ≤ _; omega
  clear hm1 hm2 hT hT64 hw h1 h2 h3 h4 hB hBw
  go_enter Tryz.func3, Tryz.ntmps3
  go_wp2_with fail
  refine hbeg.mono ?_
  rintro e W1 ⟨k1, Wd, X, t1, rfl, hT1, hl1, hF1⟩
  have b1 : Below B w W1 := k1.below HBw.out (by simp)
  have hmv1 := moves_any W1 B Wd X 0 l1 c1 a1 t1 hT1 (HM1.out.below b1) (by omega)
  have HL1 := hide (And.intro hl1 hF1)
  have HB1 := hide b1
  clear hbeg hT1 hl1 hF1 k1 b1
  go_wp2_with fail
  refine hmv1.mono ?_
  rintro e W2 ⟨rfl, b2, t2, hT2, hl2, hF2⟩
  have hl2' : t2.lst = 0 := hl2.trans HL1.out.1
  have hF2' : t2.F = [] := hF2.trans HL1.out.2
  obtain ⟨x2, _⟩ := hT2.1.lw.cells
  have hcm1 := commitT W2 B Wd X (0 + l1) t2 hT2 (by omega) (by omega) (by rw [hF2']; simp)
  rw [hl2'] at hcm1
  have HB2 := hide (HB1.out.trans b2)
  clear hmv1 hT2 hl2 hF2 hl2' hF2' b2
  go_wp2_with fail
  refine hcm1.mono ?_
  rintro e W3 ⟨rfl, b3, t3, nx3, hT3, hl3, hF3, hA3, hG3⟩
  have HB3 := hide (HB2.out.trans b3)
  have hmv2 := moves_any W3 B Wd X (0 + l1 + 1) l2 c2 a2 t3 hT3 (HM2.out.below HB3.out) (by omega)
  have HL3 := hide (And.intro hl3 hF3)
  clear hcm1 hT3 hl3 hF3 hA3 hG3 b3 x2
  go_wp2_with fail
  refine hmv2.mono ?_
  rintro e W4 ⟨rfl, b4, t4, hT4, hl4, hF4⟩
  have hl4' : t4.lst = 1 := hl4.trans HL3.out.1
  have hF4' : t4.F.length ≤ 2000000 := by rw [hF4]; have := HL3.out.2; omega
  obtain ⟨x4, _⟩ := hT4.1.lw.cells
  have hcm2 := commitT W4 B Wd X (0 + l1 + 1 + l2) t4 hT4 (by omega) (by omega) hF4'
  rw [hl4'] at hcm2
  have HB4 := hide (HB3.out.trans b4)
  clear hmv2 hT4 hl4 hF4 hl4' hF4' b4
  go_wp2_with fail
  refine hcm2.mono ?_
  rintro e W5 ⟨rfl, b5, t, nx, hT5, _, _, hA, hG⟩
  obtain ⟨N, hN⟩ : ∃ N, 0 + l1 + 1 + l2 + 1 = N := ⟨_, rfl⟩
  rw [hN] at hT5
  have hN2 : N < 999990 := by omega
  have HA := hide hA
  have HG := hide hG
  obtain ⟨x5, _⟩ := hT5.1.lw.cells
  have hcnt := hT5.1.ix.cnt
  have hnx5 := hT5.1.nx
  obtain ⟨nS, hnS⟩ : ∃ nS, t.s.Ps.length = nS := ⟨_, rfl⟩
  have hnS9 : nS ≤ 999990 := by omega
  have hsegs := segments_any X B nS t.O t.s W5 hT5.1.ix hnS (by omega)
  have hwb5 := hT5.1.lw.lt.2.2.1
  have HT5 := hide hT5
  have HB5 := hide (HB4.out.trans b5)
  have HNS := hide hnS
  clear hcm2 hA hG b5 hT5 hcnt hnx5 hnS hN x4 HB1 HB2 HB3 HB4 HL1 HL3 HM1 HM2 HBw
  go_wp2_with fail
  refine hsegs.mono ?_
  rintro e W6 ⟨al, cl, rfl, hrow6, k6⟩
  have hT6 := HT5.out.kp0 k6
  obtain ⟨x6, _⟩ := hT6.1.lw.cells
  have hfiles := files_any X B t.d t.M t.F W6 hT6.1.xDisk hT6.1.disk
  have hFl : t.F.length = nS + 1 := by rw [files_len hT6.1.ndF HA.out hT6.1.dok.nums, HNS.out]
  rw [hFl] at hfiles
  have HR6 := hide hrow6
  have HK6 := hide k6
  clear hsegs hrow6 hT6 x5 k6
  go_wp2_with fail
  refine hfiles.mono ?_
  rintro e W7 ⟨vn, rfl, hrow7, k7⟩
  obtain ⟨an, cn, evn, han⟩ := owns_forms hrow7
  subst evn
  obtain ⟨gn, rfl⟩ := han (by omega)
  have hT7 := HT5.out.kp0 (HK6.out.next k7)
  have hrs7 := k7.owns HR6.out (by simp)
  have hsl : (sortN (nms t.F)).length = nS + 1 := by
    have := (List.mergeSort_perm (nms t.F) fun x y => decide (x ≤ y)).length_eq
    unfold sortN
    rw [this]; simpa [nms] using hFl
  have n0 := nm_cell hrow7 0 (by omega)
  rw [names_first hT7.1.ndF HA.out] at n0
  obtain ⟨x7, _⟩ := hT7.1.lw.cells
  have hal : 0 < nS → ∃ g, al = some ⟨g, 0, none⟩ := by
    obtain ⟨a', c', e', ha'⟩ := owns_forms hrs7
    injection e' with e1 _ _
    subst e1
    exact ha'
  have hz6 := HK6.out.size
  have hz7 := k7.size
  have HB7 : Hid (Below B w W7) := HB5.out.trans ((HK6.out.next k7).below HT5.out.1.ix.low (by simp))
  have HT7 := hide hT7
  have HRN := hide hrow7
  have HRS := hide hrs7
  have HSL := hide hsl
  have hLI0 : Hid (LI t B Wd X N W7 W7 (docsI t.s.Ps 0) 0) := LI.start hT7.1
  clear hfiles hrow7 hrs7 hT7 han hFl hsl HR6 x6 k7 HT5 HB5
  go_wp2_with fail
  go_loopw [17, 18] (fun fv iv wr => ∃ i fd : Nat, i ≤ nS ∧ iv = .int .i64 (i : Int) ∧ fv = .int .i64 (fd : Int) ∧ Hid (LI t B Wd X N W7 wr (docsI t.s.Ps i) fd)) (fun _ iv _ => nS - (intOf iv).toNat)
  case atStart => exact ⟨0, 0, by omega, rfl, rfl, hLI0⟩
  case round =>
    clear hLI0 n0
    obtain ⟨i, fd, hi, rfl, rfl, hLI⟩ := hrel
    obtain ⟨W8, rfl⟩ : ∃ W8, W8 = wr := ⟨_, rfl⟩
    have hfd : fd ≤ 20 := by rw [← hLI.out.1]; exact fN_le _ _ _
    have hz8 := hLI.out.2.1.size
    by_cases hlt : i < nS
    · obtain ⟨gs, rfl⟩ := hal (by omega)
      have hiP : i < t.s.Ps.length := by rw [HNS.out]; exact hlt
      obtain ⟨p, hp⟩ : ∃ p, t.s.Ps[i] = p := ⟨_, rfl⟩
      have hpm : p ∈ t.s.Ps := by rw [← hp]; exact List.getElem_mem hiP
      have hdsc : Hid (docsI t.s.Ps (i + 1) = docsI t.s.Ps i ++ p.T) := by show _ = _; rw [docsI_succ _ i hiP, hp]
      obtain ⟨_, hkw, vs8, hTW8⟩ := hLI.out
      have hpart : PartIs W8 p := hTW8.ix.each p hpm
      have hfine := hpart.fine
      have hrow8 := hkw.owns HRS.out (fun g hg hx => by
        have h9 := (HRS.out.lt g hg).1
        simp at hx
        omega)
      have hpa : (t.s.abs.L)[i]'(by simp [PSt.abs]; exact hiP) = p.abs := by simp [PSt.abs, hp]
      obtain ⟨s0, s1, s3, s4, s5⟩ := seg_cells hrow8 i (by simp [PSt.abs]; exact hiP) p.abs hpa
      have hgs := Mad.cell_lt s0
      have hpn : p.abs.num = p.num := rfl
      have hpT : p.abs.T = p.T := rfl
      rw [hpn] at s0
      rw [hpT] at s1 s3 s4 s5
      obtain ⟨hinF, f, hf, hfn, hfb⟩ : segN p.num ∈ nms t.F ∧ ∃ f ∈ t.F, f.nm = segN p.num ∧ f.bs = fileT p.T := file_of hTW8 HA.out hpm
      have hids : Hid (∀ x ∈ p.T, x.1 < 20) := hTW8.dok.small.2 p.abs (List.mem_map.2 ⟨p, hpm, rfl⟩)
      have hit := itoa_any p.num W8 hTW8.tabP (by have := hpart.nlt; omega)
      have hdl := digs_le p.num (by have := hpart.nlt; omega)
      have hd : ¬ 9223372036854775807 < 1 + (digs p.num).length := by omega
      have hsg : (segN p.num).length ≤ 100 := by simp [segN]; omega
      have hfewT : ∀ x ∈ p.T, x.2.length ≤ 60 := hfine.few
      have hlenT := hfine.len
      have hstt : 0 < (termsOf p.T).length → 2 ≤ (St.refSets (termsOf p.T)).length := states_fine hfine
      have hnsB := sets_le hfine
      have hdf := dif_len p.T
      have htl := allW_le p.T hfine.few
      have HFINE := hide hfine
      have hfl := file_len p.T
      have hbl := (body_len p.T hfine).2
      obtain ⟨nT, hnT⟩ : ∃ nT, p.T.length = nT := ⟨_, rfl⟩
      obtain ⟨nt, hnt⟩ : ∃ nt, (termsOf p.T).length = nt := ⟨_, rfl⟩
      obtain ⟨ns, hns'⟩ : ∃ ns, (St.refSets (termsOf p.T)).length = ns := ⟨_, rfl⟩
      obtain ⟨nb, hnb⟩ : ∃ nb, (fileT p.T).length = nb := ⟨_, rfl⟩
      rw [hnT] at s1 hlenT htl
      rw [hnt] at s3 hstt hdf htl
      rw [hns'] at s4 hstt hnsB
      rw [hnb] at s5 hfl
      have hnb9 : nb ≤ 200000 := by omega
      have hnt9 : nt ≤ 3600 := by omega
      obtain ⟨bt, hbt'⟩ : ∃ bt, decide ((nt : Int) > 0) = bt := ⟨_, rfl⟩
      have hbt := hide hbt'
      have hns : Hid (bt = true → 2 ≤ ns) := fun e => hstt (by
        rw [← hbt', decide_eq_true_eq] at e
        omega)
      have HFO := hide (And.intro hinF (And.intro hf (And.intro hfn hfb)))
      have HNT := hide hnT
      have HNB := hide hnb
      have HDF := hide hdf
      have HFEW := hide hfewT
      unfold nmV at hit
      have j1 : (0 : Int) ≤ (i : Int) := by omega
      have j2 : (i : Int) < (nS : Int) := by omega
      have mixed : Tryz.prog.follows .mixedOrders = true := by kernel_rfl
      clear hp hpart hfine hrow8 hpa hTW8 hkw hpn hpT hinF hf hfn hfb hfewT hstt hdf hnT hnt hns' hnb hbt' hfl hbl
      go_wp2_with fail
      refine hit.mono ?_
      rintro e W9 ⟨rfl, k9⟩
      have hLI9 := hLI.out.kp0 k9
      obtain ⟨y0, y1, y2⟩ := hLI9.reads
      obtain ⟨_, _, vs9, hTW9⟩ := hLI9
      have hfile := file_any X B t.d t.M t.F (segN p.num) W9 hTW9.xDisk hTW9.disk hsg
      rw [if_pos HFO.out.1] at hfile
      have r1 := k9.cellv s1 (by simp)
      have r3 := k9.cellv s3 (by simp)
      have r4 := k9.cellv s4 (by simp)
      have r5 := k9.cellv s5 (by simp)
      have hz9 := k9.size
      have HLI9 := hide (hLI.out.kp0 k9)
      clear hit hTW9 s0 s1 s3 s4 s5 hLI y1 y2
      go_wp2_with fail
      rw [cat_nm]
      refine hfile.mono ?_
      rintro e W10 ⟨fv, rfl, _, hfv, k10⟩
      have hfv' := hfv f HFO.out.2.1 HFO.out.2.2.1
      rw [HFO.out.2.2.2] at hfv'
      obtain ⟨fa, fc, efv, hvw, hfc1, hfc2⟩ := own_vw hfv'
      subst efv
      have hread := read_file p.T HFINE.out fa fc W10 hvw hfc1 hfc2
      rw [HNB.out] at hread
      rw [HNB.out] at hfc1
      have q1 := k10.cellv r1 (by simp)
      have q3 := k10.cellv r3 (by simp)
      have q4 := k10.cellv r4 (by simp)
      have q5 := k10.cellv r5 (by simp)
      have HLI10 := hide (HLI9.out.kp0 k10)
      have hz10 := k10.size
      rw [HNB.out]
      clear hfile hfv hfv' hvw r1 r3 r4 r5 y0 HLI9
      go_wp2_with fail
      refine hread.mono ?_
      rintro e W11 ⟨tv, tvs, rfl, htx, k11⟩
      obtain ⟨ta, tc, etv, hta⟩ := owns_forms htx.row
      rw [HNT.out] at etv hta
      subst etv
      have hdiff : ∀ W, Kp [] W11 W → Calls Tryz.prog 12 #[.slice ta nT tc] W fun e w' => e = .returned (.int .i64 (nt : Int)) ∧ Kp [] W w' := fun W kk => by
        have h9 := diff_any (.slice ta nT tc) p.T tvs W10.heap.size W (htx.kp0 kk) HFINE.out.len HFINE.out.few
        rw [HDF.out] at h9
        exact h9
      have hkd : Kp [] W11 W11.drew := (Kp.refl _ _).drewN 1
      have u1 := k11.cellv q1 (by simp)
      have u3 := k11.cellv q3 (by simp)
      have u4 := k11.cellv q4 (by simp)
      have u5 := k11.cellv q5 (by simp)
      have HLI11 := hide (HLI10.out.kp0 k11)
      have HTX := hide htx
      have hz11 := k11.size
      clear hread htx q1 q3 q4 q5 HLI10
      go_wp2_with fail
      refine region_E mixed (fun w' => w'.cell? ⟨gs, i * 6 + 1, none⟩ = some (.int .i64 (nT : Int)) ∧ w'.cell? ⟨gs, i * 6 + 3, none⟩ = some (.int .i64 (nt : Int)) ∧ w'.cell? ⟨gs, i * 6 + 4, none⟩ = some (.int .i64 (ns : Int)) ∧ w'.cell? ⟨gs, i * 6 + 5, none⟩ = some (.int .i64 (nb : Int))) 60 ?_
      have hSk : ∀ w', Kp [] W11.drew w' → w'.cell? ⟨gs, i * 6 + 1, none⟩ = some (.int .i64 (nT : Int)) ∧ w'.cell? ⟨gs, i * 6 + 3, none⟩ = some (.int .i64 (nt : Int)) ∧ w'.cell? ⟨gs, i * 6 + 4, none⟩ = some (.int .i64 (ns : Int)) ∧ w'.cell? ⟨gs, i * 6 + 5, none⟩ = some (.int .i64 (nb : Int)) := fun w' kk => ⟨kk.cellv (hkd.cellv u1 (by simp)) (by simp), kk.cellv (hkd.cellv u3 (by simp)) (by simp), kk.cellv (hkd.cellv u4 (by simp)) (by simp), kk.cellv (hkd.cellv u5 (by simp)) (by simp)⟩
      have hS0 := hSk _ (Kp.refl _ _)
      refine anyE_tk 0 126 (.int .i64 (0 : Int)) rfl (Or.inl ⟨by rfl, fun w' hS => by obtain ⟨s1, s3, s4, s5⟩ := hS; go_simp⟩) hS0 ?_
      simp only [Act.put, List.setIfInBounds_toArray, List.set_cons_zero, List.set_cons_succ]
      refine anyE_tk 1 127 (.bool false) rfl (Or.inl ⟨by rfl, fun w' hS => by obtain ⟨s1, s3, s4, s5⟩ := hS; go_simp⟩) hS0 ?_
      simp only [Act.put, List.setIfInBounds_toArray, List.set_cons_zero, List.set_cons_succ]
      refine anyE_tk 2 128 (.bool false) rfl (Or.inl ⟨by rfl, fun w' hS => by obtain ⟨s1, s3, s4, s5⟩ := hS; go_simp⟩) hS0 ?_
      simp only [Act.put, List.setIfInBounds_toArray, List.set_cons_zero, List.set_cons_succ]
      refine anyE_tk 3 129 (.int .i64 (0 : Int)) rfl (Or.inl ⟨by rfl, fun w' hS => by obtain ⟨s1, s3, s4, s5⟩ := hS; go_simp⟩) hS0 ?_
      simp only [Act.put, List.setIfInBounds_toArray, List.set_cons_zero, List.set_cons_succ]
      refine anyE_tk 4 130 (.bool false) rfl (Or.inl ⟨by rfl, fun w' hS => by obtain ⟨s1, s3, s4, s5⟩ := hS; go_simp⟩) hS0 ?_
      simp only [Act.put, List.setIfInBounds_toArray, List.set_cons_zero, List.set_cons_succ]
      refine anyE_tk 5 131 (.bool false) rfl (Or.inl ⟨by rfl, fun w' hS => by obtain ⟨s1, s3, s4, s5⟩ := hS; go_simp⟩) hS0 ?_
      simp only [Act.put, List.setIfInBounds_toArray, List.set_cons_zero, List.set_cons_succ]
      refine anyE_tk 6 132 (.bool false) rfl (Or.inl ⟨by rfl, fun w' hS => by obtain ⟨s1, s3, s4, s5⟩ := hS; go_simp⟩) hS0 ?_
      simp only [Act.put, List.setIfInBounds_toArray, List.set_cons_zero, List.set_cons_succ]
      refine anyE_tk 7 133 (.slice ta nT tc) rfl (Or.inl ⟨by rfl, fun w' hS => by obtain ⟨s1, s3, s4, s5⟩ := hS; go_simp⟩) hS0 ?_
      simp only [Act.put, List.setIfInBounds_toArray, List.set_cons_zero, List.set_cons_succ]
      refine anyE_tk 8 134 (.int .i64 (nT : Int)) rfl (Or.inl ⟨by rfl, fun w' hS => by obtain ⟨s1, s3, s4, s5⟩ := hS; go_simp⟩) hS0 ?_
      simp only [Act.put, List.setIfInBounds_toArray, List.set_cons_zero, List.set_cons_succ]
      refine anyE_tk 9 135 (.slice (some ⟨gs, 0, none⟩) nS cl) rfl (Or.inl ⟨by rfl, fun w' hS => by obtain ⟨s1, s3, s4, s5⟩ := hS; go_simp⟩) hS0 ?_
      simp only [Act.put, List.setIfInBounds_toArray, List.set_cons_zero, List.set_cons_succ]
      refine anyE_tk 10 136 (.int .i64 (i : Int)) rfl (Or.inl ⟨by rfl, fun w' hS => by obtain ⟨s1, s3, s4, s5⟩ := hS; go_simp⟩) hS0 ?_
      simp only [Act.put, List.setIfInBounds_toArray, List.set_cons_zero, List.set_cons_succ]
      refine anyE_tk 11 137 (.pointer (some ⟨gs, i * 6, none⟩)) rfl (Or.inl ⟨by rfl, fun w' hS => by obtain ⟨s1, s3, s4, s5⟩ := hS; go_simp⟩) hS0 ?_
      simp only [Act.put, List.setIfInBounds_toArray, List.set_cons_zero, List.set_cons_succ]
      refine anyE_tk 12 138 (.pointer (some ⟨gs, i * 6 + 1, none⟩)) rfl (Or.inl ⟨by rfl, fun w' hS => by obtain ⟨s1, s3, s4, s5⟩ := hS; go_simp⟩) hS0 ?_
      simp only [Act.put, List.setIfInBounds_toArray, List.set_cons_zero, List.set_cons_succ]
      refine anyE_tk 13 139 (.int .i64 (nT : Int)) rfl (Or.inl ⟨by rfl, fun w' hS => by obtain ⟨s1, s3, s4, s5⟩ := hS; go_simp⟩) hS0 ?_
      simp only [Act.put, List.setIfInBounds_toArray, List.set_cons_zero, List.set_cons_succ]
      refine anyE_tk 14 140 (.bool false) rfl (Or.inl ⟨by rfl, fun w' hS => by obtain ⟨s1, s3, s4, s5⟩ := hS; go_simp⟩) hS0 ?_
      simp only [Act.put, List.setIfInBounds_toArray, List.set_cons_zero, List.set_cons_succ]
      refine anyE_tk 15 141 (.bool false) rfl (Or.inl ⟨by rfl, fun w' hS => by obtain ⟨s1, s3, s4, s5⟩ := hS; go_simp⟩) hS0 ?_
      simp only [Act.put, List.setIfInBounds_toArray, List.set_cons_zero, List.set_cons_succ]
      refine anyE_tk 16 142 (.bool false) rfl (Or.inl ⟨by rfl, fun w' hS => by obtain ⟨s1, s3, s4, s5⟩ := hS; go_simp⟩) hS0 ?_
      simp only [Act.put, List.setIfInBounds_toArray, List.set_cons_zero, List.set_cons_succ]
      refine anyE_tk 17 143 (.slice fa nb fc) rfl (Or.inl ⟨by rfl, fun w' hS => by obtain ⟨s1, s3, s4, s5⟩ := hS; go_simp⟩) hS0 ?_
      simp only [Act.put, List.setIfInBounds_toArray, List.set_cons_zero, List.set_cons_succ]
      refine anyE_tk 18 144 (.int .i64 (nb : Int)) rfl (Or.inl ⟨by rfl, fun w' hS => by obtain ⟨s1, s3, s4, s5⟩ := hS; go_simp⟩) hS0 ?_
      simp only [Act.put, List.setIfInBounds_toArray, List.set_cons_zero, List.set_cons_succ]
      refine anyE_tk 19 145 (.slice (some ⟨gs, 0, none⟩) nS cl) rfl (Or.inl ⟨by rfl, fun w' hS => by obtain ⟨s1, s3, s4, s5⟩ := hS; go_simp⟩) hS0 ?_
      simp only [Act.put, List.setIfInBounds_toArray, List.set_cons_zero, List.set_cons_succ]
      refine anyE_tk 20 146 (.int .i64 (i : Int)) rfl (Or.inl ⟨by rfl, fun w' hS => by obtain ⟨s1, s3, s4, s5⟩ := hS; go_simp⟩) hS0 ?_
      simp only [Act.put, List.setIfInBounds_toArray, List.set_cons_zero, List.set_cons_succ]
      refine anyE_tk 21 147 (.pointer (some ⟨gs, i * 6, none⟩)) rfl (Or.inl ⟨by rfl, fun w' hS => by obtain ⟨s1, s3, s4, s5⟩ := hS; go_simp⟩) hS0 ?_
      simp only [Act.put, List.setIfInBounds_toArray, List.set_cons_zero, List.set_cons_succ]
      refine anyE_tk 22 148 (.pointer (some ⟨gs, i * 6 + 5, none⟩)) rfl (Or.inl ⟨by rfl, fun w' hS => by obtain ⟨s1, s3, s4, s5⟩ := hS; go_simp⟩) hS0 ?_
      simp only [Act.put, List.setIfInBounds_toArray, List.set_cons_zero, List.set_cons_succ]
      refine anyE_tk 23 149 (.int .i64 (nb : Int)) rfl (Or.inl ⟨by rfl, fun w' hS => by obtain ⟨s1, s3, s4, s5⟩ := hS; go_simp⟩) hS0 ?_
      simp only [Act.put, List.setIfInBounds_toArray, List.set_cons_zero, List.set_cons_succ]
      refine anyE_tk 24 150 (.bool false) rfl (Or.inl ⟨by rfl, fun w' hS => by obtain ⟨s1, s3, s4, s5⟩ := hS; go_simp⟩) hS0 ?_
      simp only [Act.put, List.setIfInBounds_toArray, List.set_cons_zero, List.set_cons_succ]
      refine anyE_tk 25 151 (.bool false) rfl (Or.inl ⟨by rfl, fun w' hS => by obtain ⟨s1, s3, s4, s5⟩ := hS; go_simp⟩) hS0 ?_
      simp only [Act.put, List.setIfInBounds_toArray, List.set_cons_zero, List.set_cons_succ]
      refine anyE_tk 26 152 (.bool false) rfl (Or.inl ⟨by rfl, fun w' hS => by obtain ⟨s1, s3, s4, s5⟩ := hS; go_simp⟩) hS0 ?_
      simp only [Act.put, List.setIfInBounds_toArray, List.set_cons_zero, List.set_cons_succ]
      refine anyE_tk 27 153 (.slice (some ⟨gs, 0, none⟩) nS cl) rfl (Or.inl ⟨by rfl, fun w' hS => by obtain ⟨s1, s3, s4, s5⟩ := hS; go_simp⟩) hS0 ?_
      simp only [Act.put, List.setIfInBounds_toArray, List.set_cons_zero, List.set_cons_succ]
      refine anyE_tk 28 154 (.int .i64 (i : Int)) rfl (Or.inl ⟨by rfl, fun w' hS => by obtain ⟨s1, s3, s4, s5⟩ := hS; go_simp⟩) hS0 ?_
      simp only [Act.put, List.setIfInBounds_toArray, List.set_cons_zero, List.set_cons_succ]
      refine anyE_tk 29 155 (.pointer (some ⟨gs, i * 6, none⟩)) rfl (Or.inl ⟨by rfl, fun w' hS => by obtain ⟨s1, s3, s4, s5⟩ := hS; go_simp⟩) hS0 ?_
      simp only [Act.put, List.setIfInBounds_toArray, List.set_cons_zero, List.set_cons_succ]
      refine anyE_tk 30 156 (.pointer (some ⟨gs, i * 6 + 3, none⟩)) rfl (Or.inl ⟨by rfl, fun w' hS => by obtain ⟨s1, s3, s4, s5⟩ := hS; go_simp⟩) hS0 ?_
      simp only [Act.put, List.setIfInBounds_toArray, List.set_cons_zero, List.set_cons_succ]
      refine anyE_tk 31 157 (.int .i64 (nt : Int)) rfl (Or.inl ⟨by rfl, fun w' hS => by obtain ⟨s1, s3, s4, s5⟩ := hS; go_simp⟩) hS0 ?_
      simp only [Act.put, List.setIfInBounds_toArray, List.set_cons_zero, List.set_cons_succ]
      refine anyE_tk 32 158 (.slice ta nT tc) rfl (Or.inl ⟨by rfl, fun w' hS => by obtain ⟨s1, s3, s4, s5⟩ := hS; go_simp⟩) hS0 ?_
      simp only [Act.put, List.setIfInBounds_toArray, List.set_cons_zero, List.set_cons_succ]
      refine anyE_callg (i := 33) (o := { dst := some 159, op := _, type := _, pos := _, after := _, guard := _ }) (by kernel_rfl) rfl (by rfl) (by go_simp) (hdiff _ hkd) ?_
      rintro e W12 ⟨rfl, k12⟩
      have hS0 := hSk W12 k12
      refine ⟨_, rfl, .inr hS0, ?_⟩
      try simp only [Act.put, List.setIfInBounds_toArray, List.set_cons_zero, List.set_cons_succ]
      refine anyE_tk 34 160 (.bool false) rfl (Or.inl ⟨by rfl, fun w' hS => by obtain ⟨s1, s3, s4, s5⟩ := hS; go_simp⟩) hS0 ?_
      simp only [Act.put, List.setIfInBounds_toArray, List.set_cons_zero, List.set_cons_succ]
      refine anyE_tk 35 161 (.bool false) rfl (Or.inl ⟨by rfl, fun w' hS => by obtain ⟨s1, s3, s4, s5⟩ := hS; go_simp⟩) hS0 ?_
      simp only [Act.put, List.setIfInBounds_toArray, List.set_cons_zero, List.set_cons_succ]
      refine anyE_tk 36 162 (.bool false) rfl (Or.inl ⟨by rfl, fun w' hS => by obtain ⟨s1, s3, s4, s5⟩ := hS; go_simp⟩) hS0 ?_
      simp only [Act.put, List.setIfInBounds_toArray, List.set_cons_zero, List.set_cons_succ]
      refine anyE_tk 37 163 (.slice (some ⟨gs, 0, none⟩) nS cl) rfl (Or.inl ⟨by rfl, fun w' hS => by obtain ⟨s1, s3, s4, s5⟩ := hS; go_simp⟩) hS0 ?_
      simp only [Act.put, List.setIfInBounds_toArray, List.set_cons_zero, List.set_cons_succ]
      refine anyE_tk 38 164 (.int .i64 (i : Int)) rfl (Or.inl ⟨by rfl, fun w' hS => by obtain ⟨s1, s3, s4, s5⟩ := hS; go_simp⟩) hS0 ?_
      simp only [Act.put, List.setIfInBounds_toArray, List.set_cons_zero, List.set_cons_succ]
      refine anyE_tk 39 165 (.pointer (some ⟨gs, i * 6, none⟩)) rfl (Or.inl ⟨by rfl, fun w' hS => by obtain ⟨s1, s3, s4, s5⟩ := hS; go_simp⟩) hS0 ?_
      simp only [Act.put, List.setIfInBounds_toArray, List.set_cons_zero, List.set_cons_succ]
      refine anyE_tk 40 166 (.pointer (some ⟨gs, i * 6 + 4, none⟩)) rfl (Or.inl ⟨by rfl, fun w' hS => by obtain ⟨s1, s3, s4, s5⟩ := hS; go_simp⟩) hS0 ?_
      simp only [Act.put, List.setIfInBounds_toArray, List.set_cons_zero, List.set_cons_succ]
      refine anyE_tk 41 167 (.int .i64 (ns : Int)) rfl (Or.inl ⟨by rfl, fun w' hS => by obtain ⟨s1, s3, s4, s5⟩ := hS; go_simp⟩) hS0 ?_
      simp only [Act.put, List.setIfInBounds_toArray, List.set_cons_zero, List.set_cons_succ]
      refine anyE_tk 42 168 (.bool false) rfl (Or.inl ⟨by rfl, fun w' hS => by obtain ⟨s1, s3, s4, s5⟩ := hS; go_simp⟩) hS0 ?_
      simp only [Act.put, List.setIfInBounds_toArray, List.set_cons_zero, List.set_cons_succ]
      refine anyE_tk 43 169 (.bool false) rfl (Or.inl ⟨by rfl, fun w' hS => by obtain ⟨s1, s3, s4, s5⟩ := hS; go_simp⟩) hS0 ?_
      simp only [Act.put, List.setIfInBounds_toArray, List.set_cons_zero, List.set_cons_succ]
      refine anyE_tk 44 170 (.bool false) rfl (Or.inl ⟨by rfl, fun w' hS => by obtain ⟨s1, s3, s4, s5⟩ := hS; go_simp⟩) hS0 ?_
      simp only [Act.put, List.setIfInBounds_toArray, List.set_cons_zero, List.set_cons_succ]
      refine anyE_tk 45 171 (.slice (some ⟨gs, 0, none⟩) nS cl) rfl (Or.inl ⟨by rfl, fun w' hS => by obtain ⟨s1, s3, s4, s5⟩ := hS; go_simp⟩) hS0 ?_
      simp only [Act.put, List.setIfInBounds_toArray, List.set_cons_zero, List.set_cons_succ]
      refine anyE_tk 46 172 (.int .i64 (i : Int)) rfl (Or.inl ⟨by rfl, fun w' hS => by obtain ⟨s1, s3, s4, s5⟩ := hS; go_simp⟩) hS0 ?_
      simp only [Act.put, List.setIfInBounds_toArray, List.set_cons_zero, List.set_cons_succ]
      refine anyE_tk 47 173 (.pointer (some ⟨gs, i * 6, none⟩)) rfl (Or.inl ⟨by rfl, fun w' hS => by obtain ⟨s1, s3, s4, s5⟩ := hS; go_simp⟩) hS0 ?_
      simp only [Act.put, List.setIfInBounds_toArray, List.set_cons_zero, List.set_cons_succ]
      refine anyE_tk 48 174 (.pointer (some ⟨gs, i * 6 + 3, none⟩)) rfl (Or.inl ⟨by rfl, fun w' hS => by obtain ⟨s1, s3, s4, s5⟩ := hS; go_simp⟩) hS0 ?_
      simp only [Act.put, List.setIfInBounds_toArray, List.set_cons_zero, List.set_cons_succ]
      refine anyE_tk 49 175 (.int .i64 (nt : Int)) rfl (Or.inl ⟨by rfl, fun w' hS => by obtain ⟨s1, s3, s4, s5⟩ := hS; go_simp⟩) hS0 ?_
      simp only [Act.put, List.setIfInBounds_toArray, List.set_cons_zero, List.set_cons_succ]
      refine anyE_tk 50 176 (.bool bt) rfl (Or.inl ⟨by rfl, fun w' hS => by rw [← hbt.out]; go_simp⟩) hS0 ?_
      simp only [Act.put, List.setIfInBounds_toArray, List.set_cons_zero, List.set_cons_succ]
      refine anyE_tk 51 177 (.bool bt) rfl (Or.inl ⟨by rfl, fun w' hS => by obtain ⟨s1, s3, s4, s5⟩ := hS; go_simp⟩) hS0 ?_
      simp only [Act.put, List.setIfInBounds_toArray, List.set_cons_zero, List.set_cons_succ]
      refine anyE_tk 52 178 ((cond bt (.slice (some ⟨gs, 0, none⟩) nS cl) undef)) rfl (by cases bt with | true => exact Or.inl ⟨by rfl, fun w' hS => by obtain ⟨s1, s3, s4, s5⟩ := hS; go_simp⟩ | false => exact Or.inr ⟨by rfl, rfl⟩) hS0 ?_
      simp only [Act.put, List.setIfInBounds_toArray, List.set_cons_zero, List.set_cons_succ]
      refine anyE_tk 53 179 ((cond bt (.int .i64 (i : Int)) undef)) rfl (by cases bt with | true => exact Or.inl ⟨by rfl, fun w' hS => by obtain ⟨s1, s3, s4, s5⟩ := hS; go_simp⟩ | false => exact Or.inr ⟨by rfl, rfl⟩) hS0 ?_
      simp only [Act.put, List.setIfInBounds_toArray, List.set_cons_zero, List.set_cons_succ]
      refine anyE_tk 54 180 ((cond bt (.pointer (some ⟨gs, i * 6, none⟩)) undef)) rfl (by cases bt with | true => exact Or.inl ⟨by rfl, fun w' hS => by obtain ⟨s1, s3, s4, s5⟩ := hS; go_simp⟩ | false => exact Or.inr ⟨by rfl, rfl⟩) hS0 ?_
      simp only [Act.put, List.setIfInBounds_toArray, List.set_cons_zero, List.set_cons_succ]
      refine anyE_tk 55 181 ((cond bt (.pointer (some ⟨gs, i * 6 + 4, none⟩)) undef)) rfl (by cases bt with | true => exact Or.inl ⟨by rfl, fun w' hS => by obtain ⟨s1, s3, s4, s5⟩ := hS; go_simp⟩ | false => exact Or.inr ⟨by rfl, rfl⟩) hS0 ?_
      simp only [Act.put, List.setIfInBounds_toArray, List.set_cons_zero, List.set_cons_succ]
      refine anyE_tk 56 182 ((cond bt (.int .i64 (ns : Int)) undef)) rfl (by cases bt with | true => exact Or.inl ⟨by rfl, fun w' hS => by obtain ⟨s1, s3, s4, s5⟩ := hS; go_simp⟩ | false => exact Or.inr ⟨by rfl, rfl⟩) hS0 ?_
      simp only [Act.put, List.setIfInBounds_toArray, List.set_cons_zero, List.set_cons_succ]
      refine anyE_tk 57 183 ((cond bt (.bool false) undef)) rfl (by cases bt with | true => (have hq : (2 : Int) ≤ (ns : Int) := (by have := hns.out rfl; omega); exact Or.inl ⟨by rfl, fun w' hS => by go_simp⟩) | false => exact Or.inr ⟨by rfl, rfl⟩) hS0 ?_
      simp only [Act.put, List.setIfInBounds_toArray, List.set_cons_zero, List.set_cons_succ]
      refine anyE_tk 58 184 (.bool false) rfl (by cases bt with | true => exact Or.inl ⟨by rfl, fun w' hS => by go_simp⟩ | false => exact Or.inl ⟨by rfl, fun w' hS => by go_simp⟩) hS0 ?_
      simp only [Act.put, List.setIfInBounds_toArray, List.set_cons_zero, List.set_cons_succ]
      refine anyE_tk 59 185 (.bool false) rfl (Or.inl ⟨by rfl, fun w' hS => by obtain ⟨s1, s3, s4, s5⟩ := hS; go_simp⟩) hS0 ?_
      simp only [Act.put, List.setIfInBounds_toArray, List.set_cons_zero, List.set_cons_succ]
      refine anyE_done (by kernel_rfl) ?_ _

      have HLI12 := hide ((HLI11.out.kp0 hkd).kp0 k12)
      have HTX12 := hide ((HTX.out.kp0 hkd).kp0 k12)
      have hz12 : W11.heap.size ≤ W12.heap.size := (hkd.next k12).size
      have hwbT : t.wb < W10.heap.size := by omega
      clear u1 u3 u4 u5 hS0 hSk hdiff k12 HTX HLI11 hbt hns HFO HDF
      go_wp2_with fail
      go_loopw [17, 24] (fun fv kv w2 => ∃ k fd : Nat, k ≤ nT ∧ kv = .int .i64 (k : Int) ∧ fv = .int .i64 (fd : Int) ∧ Hid (LI t B Wd X N W7 w2 (docsI t.s.Ps i ++ p.T.take k) fd) ∧ Hid (Kp [t.wb] W12 w2)) (fun _ kv _ => nT - (intOf kv).toNat)
      case atStart => exact ⟨0, fd, by omega, rfl, rfl, by show LI _ _ _ _ _ _ _ _ _; rw [List.take_zero, List.append_nil]; exact HLI12.out, Kp.refl _ _⟩
      case round =>
        clear HLI12 hfd
        obtain ⟨k, fd, hk, rfl, rfl, hLI, hK2⟩ := hrel
        obtain ⟨W13, rfl⟩ : ∃ W13, W13 = wr := ⟨_, rfl⟩
        have hfd : fd ≤ 20 := by rw [← hLI.out.1]; exact fN_le _ _ _
        by_cases hlt2 : k < nT
        · obtain ⟨gt, rfl⟩ := hta (by omega)
          have hkT : k < p.T.length := by rw [HNT.out]; exact hlt2
          have hkv : k < tvs.length := by rw [HTX12.out.len]; exact hkT
          have htx13 : TextsIs W13 W10.heap.size (.slice (some ⟨gt, 0, none⟩) nT tc) p.T tvs := HTX12.out.kp hK2.out (fun x hx e => by
            have h9 := (HTX12.out.row.lt x e).1
            simp at hx
            omega) (fun j hj x hx e => by
            have h9 := ((HTX12.out.each j (by rw [← HTX12.out.len]; exact hj) hj).lt x e).1
            simp at hx
            omega)
          obtain ⟨e0, e1⟩ := htx13.cells k hkT hkv
          have hrw := htx13.each k hkT hkv
          obtain ⟨⟨id, ws⟩, htk⟩ : ∃ tk, p.T[k] = tk := ⟨_, rfl⟩
          obtain ⟨u, hu⟩ : ∃ u, tvs[k] = u := ⟨_, rfl⟩
          have hid : id < 20 := by have := hids.out p.T[k] (List.getElem_mem hkT); rw [htk] at this; exact this
          have hwsw : Hid (∀ x ∈ ws, isWord x = true) := by
            have := HFINE.out.word p.T[k] (List.getElem_mem hkT)
            rw [htk] at this; exact this
          have hws60 : ws.length ≤ 60 := by have := HFINE.out.few p.T[k] (List.getElem_mem hkT); rw [htk] at this; exact this
          have htkk : Hid (p.T.take (k + 1) = p.T.take k ++ [(id, ws)]) := by show _ = _; rw [take_snocL _ k hkT, htk]
          rw [htk, hu] at hrw
          rw [htk] at e0
          rw [hu] at e1
          simp only at hrw e0
          obtain ⟨ua, uc, eu, hua⟩ := owns_forms hrw
          subst eu
          obtain ⟨z0, z1, z2⟩ := hLI.out.reads
          obtain ⟨tbc, v, wbc, wbf, hvrow⟩ := hLI.out.words hid
          obtain ⟨l, hl⟩ : ∃ l, (mwl t.th t.wl (docsI t.s.Ps i ++ p.T.take k)).getD id [] = l := ⟨_, rfl⟩
          rw [hl] at hvrow
          obtain ⟨xa, xc, ex, hxa⟩ := owns_forms hvrow
          subst ex
          obtain ⟨bth, hbth⟩ : ∃ b, t.th.getD id false = b := ⟨_, rfl⟩
          rw [hbth] at tbc
          have kd13 : Kp [] W13 W13.drew := (Kp.refl _ _).drewN 1
          have hsame := sameS_any (.slice ua ws.length uc) (.slice xa l.length xc) W10.heap.size B ws l W13.drew (by omega) (kd13.owns hrw (by simp)) (kd13.owns hvrow (by simp))
          have j3 : (0 : Int) ≤ (k : Int) := by omega
          have j4 : (k : Int) < (nT : Int) := by omega
          have j5 : (0 : Int) ≤ (id : Int) := by omega
          have j6 : (id : Int) < 20 := by omega
          have j7 : ¬ (id : Int) < 0 := by omega
          have j8 : ¬ (id : Int) ≥ 20 := by omega
          have HL := hide hl
          have HBTH := hide hbth
          have HVR := hide hvrow
          clear htx13 htk hu hrw hvrow hl hbth
          go_wp2_with fail
          refine region_E mixed (fun w' => w'.cell? ⟨gt, k * 2 + 1, none⟩ = some (.slice ua ws.length uc) ∧ w'.cell? ⟨Wd, 2, none⟩ = some (.slice (some ⟨t.wb, 0, none⟩) 20 20) ∧ w'.cell? ⟨t.wb, id, none⟩ = some (.slice xa l.length xc)) 14 ?_
          have hS0 : W13.drew.cell? ⟨gt, k * 2 + 1, none⟩ = some (.slice ua ws.length uc) ∧ W13.drew.cell? ⟨Wd, 2, none⟩ = some (.slice (some ⟨t.wb, 0, none⟩) 20 20) ∧ W13.drew.cell? ⟨t.wb, id, none⟩ = some (.slice xa l.length xc) := ⟨e1, z2, wbc⟩
          refine anyE_tk 0 203 (.slice (some ⟨gt, 0, none⟩) nT tc) rfl (Or.inl ⟨by rfl, fun w' hS => by obtain ⟨s1, s2, s3⟩ := hS; go_simp⟩) hS0 ?_
          simp only [Act.put, List.setIfInBounds_toArray, List.set_cons_zero, List.set_cons_succ]
          refine anyE_tk 1 204 (.int .i64 (k : Int)) rfl (Or.inl ⟨by rfl, fun w' hS => by obtain ⟨s1, s2, s3⟩ := hS; go_simp⟩) hS0 ?_
          simp only [Act.put, List.setIfInBounds_toArray, List.set_cons_zero, List.set_cons_succ]
          refine anyE_tk 2 205 (.pointer (some ⟨gt, k * 2, none⟩)) rfl (Or.inl ⟨by rfl, fun w' hS => by obtain ⟨s1, s2, s3⟩ := hS; go_simp⟩) hS0 ?_
          simp only [Act.put, List.setIfInBounds_toArray, List.set_cons_zero, List.set_cons_succ]
          refine anyE_tk 3 206 (.pointer (some ⟨gt, k * 2 + 1, none⟩)) rfl (Or.inl ⟨by rfl, fun w' hS => by obtain ⟨s1, s2, s3⟩ := hS; go_simp⟩) hS0 ?_
          simp only [Act.put, List.setIfInBounds_toArray, List.set_cons_zero, List.set_cons_succ]
          refine anyE_tk 4 207 (.slice ua ws.length uc) rfl (Or.inl ⟨by rfl, fun w' hS => by obtain ⟨s1, s2, s3⟩ := hS; go_simp⟩) hS0 ?_
          simp only [Act.put, List.setIfInBounds_toArray, List.set_cons_zero, List.set_cons_succ]
          refine anyE_tk 5 208 (.pointer (some ⟨Wd, 0, none⟩)) rfl (Or.inl ⟨by rfl, fun w' hS => by obtain ⟨s1, s2, s3⟩ := hS; go_simp⟩) hS0 ?_
          simp only [Act.put, List.setIfInBounds_toArray, List.set_cons_zero, List.set_cons_succ]
          refine anyE_tk 6 209 (.pointer (some ⟨Wd, 0, none⟩)) rfl (Or.inl ⟨by rfl, fun w' hS => by obtain ⟨s1, s2, s3⟩ := hS; go_simp⟩) hS0 ?_
          simp only [Act.put, List.setIfInBounds_toArray, List.set_cons_zero, List.set_cons_succ]
          refine anyE_tk 7 210 (.pointer (some ⟨Wd, 2, none⟩)) rfl (Or.inl ⟨by rfl, fun w' hS => by obtain ⟨s1, s2, s3⟩ := hS; go_simp⟩) hS0 ?_
          simp only [Act.put, List.setIfInBounds_toArray, List.set_cons_zero, List.set_cons_succ]
          refine anyE_tk 8 211 (.slice (some ⟨t.wb, 0, none⟩) 20 20) rfl (Or.inl ⟨by rfl, fun w' hS => by obtain ⟨s1, s2, s3⟩ := hS; go_simp⟩) hS0 ?_
          simp only [Act.put, List.setIfInBounds_toArray, List.set_cons_zero, List.set_cons_succ]
          refine anyE_tk 9 212 (.int .i64 (id : Int)) rfl (Or.inl ⟨by rfl, fun w' hS => by obtain ⟨s1, s2, s3⟩ := hS; go_simp⟩) hS0 ?_
          simp only [Act.put, List.setIfInBounds_toArray, List.set_cons_zero, List.set_cons_succ]
          refine anyE_tk 10 213 (.pointer (some ⟨t.wb, id, none⟩)) rfl (Or.inl ⟨by rfl, fun w' hS => by obtain ⟨s1, s2, s3⟩ := hS; go_simp⟩) hS0 ?_
          simp only [Act.put, List.setIfInBounds_toArray, List.set_cons_zero, List.set_cons_succ]
          refine anyE_tk 11 214 (.slice xa l.length xc) rfl (Or.inl ⟨by rfl, fun w' hS => by obtain ⟨s1, s2, s3⟩ := hS; go_simp⟩) hS0 ?_
          simp only [Act.put, List.setIfInBounds_toArray, List.set_cons_zero, List.set_cons_succ]
          refine anyE_call (i := 12) (o := { dst := some 215, op := _, type := _, pos := _, after := _, guard := _ }) (by kernel_rfl) rfl rfl (by go_simp) hsame ?_
          rintro e W14 ⟨rfl, q, rfl⟩
          refine ⟨_, rfl, .inr hS0, ?_⟩
          try simp only [Act.put, List.setIfInBounds_toArray, List.set_cons_zero, List.set_cons_succ]
          refine anyE_tk 13 26 (.bool (decide (ws = l))) rfl (Or.inl ⟨by rfl, fun w' hS => by obtain ⟨s1, s2, s3⟩ := hS; go_simp⟩) hS0 ?_
          simp only [Act.put, List.setIfInBounds_toArray, List.set_cons_zero, List.set_cons_succ]
          refine anyE_done (by kernel_rfl) ?_ _

          obtain ⟨W14, hW14⟩ : ∃ W14, W13.drew.drewN q = W14 := ⟨_, rfl⟩
          have k14 : Kp [] W13 W14 := by rw [← hW14]; exact kd13.next ((Kp.refl _ _).drewN q)
          have d1 := k14.cellv z1 (by simp)
          have d2 := k14.cellv z2 (by simp)
          have d3 := k14.cellv tbc (by simp)
          have d4 := k14.cellv wbc (by simp)
          have d5 : W14.frozen? ⟨t.wb, id, none⟩ = false := by rw [← hW14]; exact wbf
          have hz14 := k14.size
          rw [hW14]
          have HK14 := hide k14
          clear hS0 hsame z0 z1 z2 tbc wbc wbf e0 e1 hW14 k14 kd13
          by_cases hyes : bth = true ∧ ws = l
          · obtain ⟨rfl, rfl⟩ := hyes
            have hdt : decide (ws = ws) = true := by simp
            rw [hdt]
            have kd14 : Kp [] W14 W14.drew := (Kp.refl _ _).drewN 1
            have hWl := Mad.cell_lt d2
            have hwl := Mad.cell_lt d4
            clear d5
            go_wp2_with fail
            refine region_E mixed (fun w' => w'.cell? ⟨Wd, 2, none⟩ = some (.slice (some ⟨t.wb, 0, none⟩) 20 20) ∧ w'.cell? ⟨t.wb, id, none⟩ = some (.slice xa ws.length xc)) 15 ?_
            have hS0 : W14.drew.cell? ⟨Wd, 2, none⟩ = some (.slice (some ⟨t.wb, 0, none⟩) 20 20) ∧ W14.drew.cell? ⟨t.wb, id, none⟩ = some (.slice xa ws.length xc) := ⟨d2, d4⟩
            refine anyE_tk 0 226 (.pointer (some ⟨Wd, 0, none⟩)) rfl (Or.inl ⟨by rfl, fun w' hS => by obtain ⟨s1, s2⟩ := hS; go_simp⟩) hS0 ?_
            simp only [Act.put, List.setIfInBounds_toArray, List.set_cons_zero, List.set_cons_succ]
            refine anyE_tk 1 227 (.pointer (some ⟨Wd, 0, none⟩)) rfl (Or.inl ⟨by rfl, fun w' hS => by obtain ⟨s1, s2⟩ := hS; go_simp⟩) hS0 ?_
            simp only [Act.put, List.setIfInBounds_toArray, List.set_cons_zero, List.set_cons_succ]
            refine anyE_tk 2 228 (.pointer (some ⟨Wd, 2, none⟩)) rfl (Or.inl ⟨by rfl, fun w' hS => by obtain ⟨s1, s2⟩ := hS; go_simp⟩) hS0 ?_
            simp only [Act.put, List.setIfInBounds_toArray, List.set_cons_zero, List.set_cons_succ]
            refine anyE_tk 3 229 (.slice (some ⟨t.wb, 0, none⟩) 20 20) rfl (Or.inl ⟨by rfl, fun w' hS => by obtain ⟨s1, s2⟩ := hS; go_simp⟩) hS0 ?_
            simp only [Act.put, List.setIfInBounds_toArray, List.set_cons_zero, List.set_cons_succ]
            refine anyE_tk 4 230 (.int .i64 (id : Int)) rfl (Or.inl ⟨by rfl, fun w' hS => by obtain ⟨s1, s2⟩ := hS; go_simp⟩) hS0 ?_
            simp only [Act.put, List.setIfInBounds_toArray, List.set_cons_zero, List.set_cons_succ]
            refine anyE_tk 6 232 (.pointer (some ⟨Wd, 0, none⟩)) rfl (Or.inl ⟨by rfl, fun w' hS => by obtain ⟨s1, s2⟩ := hS; go_simp⟩) hS0 ?_
            simp only [Act.put, List.setIfInBounds_toArray, List.set_cons_zero, List.set_cons_succ]
            refine anyE_tk 7 233 (.pointer (some ⟨Wd, 0, none⟩)) rfl (Or.inl ⟨by rfl, fun w' hS => by obtain ⟨s1, s2⟩ := hS; go_simp⟩) hS0 ?_
            simp only [Act.put, List.setIfInBounds_toArray, List.set_cons_zero, List.set_cons_succ]
            refine anyE_tk 8 234 (.pointer (some ⟨Wd, 2, none⟩)) rfl (Or.inl ⟨by rfl, fun w' hS => by obtain ⟨s1, s2⟩ := hS; go_simp⟩) hS0 ?_
            simp only [Act.put, List.setIfInBounds_toArray, List.set_cons_zero, List.set_cons_succ]
            refine anyE_tk 9 235 (.slice (some ⟨t.wb, 0, none⟩) 20 20) rfl (Or.inl ⟨by rfl, fun w' hS => by obtain ⟨s1, s2⟩ := hS; go_simp⟩) hS0 ?_
            simp only [Act.put, List.setIfInBounds_toArray, List.set_cons_zero, List.set_cons_succ]
            refine anyE_tk 10 236 (.int .i64 (id : Int)) rfl (Or.inl ⟨by rfl, fun w' hS => by obtain ⟨s1, s2⟩ := hS; go_simp⟩) hS0 ?_
            simp only [Act.put, List.setIfInBounds_toArray, List.set_cons_zero, List.set_cons_succ]
            refine anyE_tk 11 237 (.pointer (some ⟨t.wb, id, none⟩)) rfl (Or.inl ⟨by rfl, fun w' hS => by obtain ⟨s1, s2⟩ := hS; go_simp⟩) hS0 ?_
            simp only [Act.put, List.setIfInBounds_toArray, List.set_cons_zero, List.set_cons_succ]
            refine anyE_tk 12 238 (.slice xa ws.length xc) rfl (Or.inl ⟨by rfl, fun w' hS => by obtain ⟨s1, s2⟩ := hS; go_simp⟩) hS0 ?_
            simp only [Act.put, List.setIfInBounds_toArray, List.set_cons_zero, List.set_cons_succ]

            obtain ⟨W15, hW15⟩ : ∃ W15, W14.drew.alloc (.cells #[.string ⟨#[40, 102, 111, 117, 110, 100, 41]⟩] 9) = W15 := ⟨_, rfl⟩
            have k15 : Kp [] W14.drew W15 := by rw [← hW15]; exact (Kp.refl _ _).alloc _
            have hz15 : W15.heap.size = W14.heap.size + 1 := by rw [← hW15]; show (W14.drew.alloc _).heap.size = _; simp
            refine anyE_ran (i := 5) (o := { dst := some 231, op := _, type := _, pos := _, after := _, guard := _ }) (v := .slice (some ⟨W14.drew.heap.size, 0, none⟩) 1 1) (w' := W15) (by kernel_rfl) rfl rfl (by rw [← hW15]; go_simp) (.inr ⟨k15.cellv hS0.1 (by simp), k15.cellv hS0.2 (by simp)⟩) ?_
            try simp only [Act.put, List.setIfInBounds_toArray, List.set_cons_zero, List.set_cons_succ]
            have hown15 : W15.ownsRow W13.heap.size 9 1 (.slice (some ⟨W14.drew.heap.size, 0, none⟩) 1 1) 1 [.string ⟨fnd.toArray⟩] := by
              rw [← hW15]
              exact World.ownsRow_lit W14.drew #[.string ⟨#[40, 102, 111, 117, 110, 100, 41]⟩] 1 hz14 (by unfold maxLen; omega) rfl
            have hv15 : W15.ownsRow B 9 1 (.slice xa ws.length xc) ws.length (strV ws) := k15.owns (kd14.owns (HK14.out.owns HVR.out (by simp)) (by simp)) (by simp)
            refine anyE_wp (i := 13) (o := { dst := some 239, op := _, type := _, pos := _, after := _, guard := _ }) (by kernel_rfl) rfl rfl ?_
            refine wp_append_row _ _ 37 rfl W13.heap.size 9 i0 _ 16 Tryz.underlying37 hi0 hq0 hq1 hq2 rfl (.slice (some ⟨W14.drew.heap.size, 0, none⟩) 1 1) 1 [.string ⟨fnd.toArray⟩] rfl hown15 (.slice xa ws.length xc) B ws.length (strV ws) rfl hv15 (fun y hy => by
              obtain ⟨x, _, rfl⟩ := List.mem_map.1 hy
              rfl) (by unfold maxLen; omega) (by omega) (by omega) ?_
            intro v' W16 hown16 hgrow
            obtain ⟨va, vc, ev, _⟩ := owns_forms hown16
            subst ev
            have k16 : Kp [W14.drew.heap.size] W15 W16 := grown_kp hgrow
            have hzd : W14.drew.heap.size = W14.heap.size := rfl
            have kp16 : Kp [] W13 W16 := (HK14.out.next (kd14.next k15)).trans k16 (fun x hx => .inr (by simp at hx; omega))
            have S16 : W16.cell? ⟨Wd, 2, none⟩ = some (.slice (some ⟨t.wb, 0, none⟩) 20 20) ∧ W16.cell? ⟨t.wb, id, none⟩ = some (.slice xa ws.length xc) :=
              ⟨k16.cellv (k15.cellv hS0.1 (by simp)) (by simp; omega), k16.cellv (k15.cellv hS0.2 (by simp)) (by simp; omega)⟩
            refine ⟨.inr S16, ?_⟩
            try simp only [Act.put, List.setIfInBounds_toArray, List.set_cons_zero, List.set_cons_succ]
            refine anyE_ran (i := 14) (o := { dst := some 240, op := _, type := _, pos := _, after := _, guard := _ }) (v := .pointer (some ⟨t.wb, id, none⟩)) (w' := W16) (by kernel_rfl) rfl rfl (by go_simp) (.inr S16) ?_
            try simp only [Act.put, List.setIfInBounds_toArray, List.set_cons_zero, List.set_cons_succ]
            obtain ⟨_, z2⟩ := S16
            obtain ⟨_, v9, _, zf, _⟩ := (hLI.out.kp0 kp16).words hid
            refine anyE_wp (i := 15) (o := { dst := none, op := _, type := _, pos := _, after := _, guard := _ }) (by kernel_rfl) rfl rfl ?_
            go_simp
            refine anyE_done (by kernel_rfl) ?_ _
            obtain ⟨W17, hW17⟩ : ∃ W17, W16.setCell ⟨t.wb, id, none⟩ (.slice va (1 + ws.length) vc) = W17 := ⟨_, rfl⟩
            have hLIf : Hid (LI t B Wd X N W7 W17 (docsI t.s.Ps i ++ p.T.take (k + 1)) (fd + 1)) := by
              show LI _ _ _ _ _ _ _ _ _
              rw [htkk.out, ← List.append_assoc, ← hW17]
              refine hLI.out.mark hid hwsw.out HBTH.out HL.out.symm kp16 ?_
              rw [show (fnd :: ws).length = 1 + ws.length by simp; omega]
              exact hown16
            have hKf : Hid (Kp [t.wb] W12 W17) := by
              show Kp _ _ _
              rw [← hW17]
              exact (hK2.out.next (kp16.mono (by simp))).next (kp_set _ _ _ _)
            have hfd2 : fd + 1 ≤ 20 := by rw [← hLIf.out.1]; exact fN_le _ _ _
            rw [hW17]
            clear hown16 hgrow k16 hown15 hv15 z2 zf kp16 hW17 hW15 k15 hS0
            go_wp2_with fail
            go_roundw
            case measure => simp [intOf]; omega
            case rel => exact ⟨k + 1, fd + 1, by omega, by go_num, by go_num, hLIf, hKf⟩
          · have hLIn : Hid (LI t B Wd X N W7 W14 (docsI t.s.Ps i ++ p.T.take (k + 1)) fd) := by
              show LI _ _ _ _ _ _ _ _ _
              rw [htkk.out, ← List.append_assoc]
              exact (hLI.out.kp0 HK14.out).skip hid (fun h => hyes ⟨by rw [← HBTH.out]; exact h.1, h.2.trans HL.out⟩)
            have hKn : Hid (Kp [t.wb] W12 W14) := hK2.out.next (HK14.out.mono (by simp))
            cases bth with
            | false =>
              clear hyes
              go_wp2_with fail
              go_roundw
              case measure => simp [intOf]; omega
              case rel => exact ⟨k + 1, fd, by omega, by go_num, rfl, hLIn, hKn⟩
            | true =>
              have hdt : decide (ws = l) = false := decide_eq_false fun e => hyes ⟨rfl, e⟩
              rw [hdt]
              clear hyes
              go_wp2_with fail
              go_roundw
              case measure => simp [intOf]; omega
              case rel => exact ⟨k + 1, fd, by omega, by go_num, rfl, hLIn, hKn⟩
        · have hkn : k = nT := by omega
          subst hkn
          have hltz : ¬ (k : Int) < (k : Int) := by omega
          have hLIf : Hid (LI t B Wd X N W7 W13 (docsI t.s.Ps (i + 1)) fd) := by
            show LI _ _ _ _ _ _ _ _ _
            rw [hdsc.out]
            have h9 := hLI.out
            rw [List.take_of_length_le (by rw [HNT.out]; omega)] at h9
            exact h9
          go_wp2_with fail
          go_roundw
          case measure => simp [intOf]; omega
          case rel => exact ⟨i + 1, fd, by omega, by go_num, rfl, hLIf⟩
    · have hin : i = nS := by omega
      subst hin
      have hltz : ¬ (i : Int) < (i : Int) := by omega
      obtain ⟨hfN, hkw, vs8, hTW8⟩ := hLI.out
      have hcnt : fd = cntT t.th := by
        rw [← hfN]
        have h9 : i = t.s.Ps.length := HNS.out.symm
        rw [h9]
        exact all_found fun j hj => docs_all HT7.out.2.1 HG.out j hj
      have hrn : Hid (W8.ownsRow W6.heap.size 9 1 (.slice (some ⟨gn, 0, none⟩) (i + 1) cn) (i + 1) (nmL (sortN (nms t.F)))) := hkw.owns HRN.out (fun g hg hx => by
        have h9 := (HRN.out.lt g hg).1
        simp at hx
        omega)
      have hpw : Hid ((sortN (nms t.F)).Pairwise (· < ·)) := sortN_pw HT7.out.1.ndF
      have hfile := fun W (kk : Kp [] W8 W) => file_any X B t.d t.M t.F [116] W (hTW8.kp0 kk).xDisk (hTW8.kp0 kk).disk (by simp)
      have hcount := fun W (kk : Kp [] W8 W) => count_any W B Wd X t.tb t.wb t.on t.th vs8 _ (hTW8.kp0 kk).lw
      rw [if_neg (no_t HA.out)] at hfile
      obtain ⟨z0, z1, z2⟩ := hLI.out.reads
      have HCNT := hide hcnt
      have hbel : Hid (∀ W, Kp [] W8 W → Below B w W) := fun W kk => HB7.out.trans ((hkw.next (kk.mono (by simp))).below HT7.out.1.ix.low (by simpa using HT7.out.1.lB.2.2))
      clear hTW8 hkw hfN hcnt hLI
      go_wp2_with fail
      go_loopw [27] (fun jv w2 => ∃ m q : Nat, m ≤ i ∧ jv = .int .i64 ((m : Int) + 1) ∧ w2 = W8.drewN q) (fun jv _ => i + 1 - (intOf jv).toNat)
      case atStart => exact ⟨0, 0, by omega, rfl, rfl⟩
      case round =>
        obtain ⟨m, q, hm, rfl, rfl⟩ := hrel
        by_cases hlt3 : m < i
        · have cA := nm_cell hrn.out (m + 1) (by have := HSL.out; omega)
          have cB := nm_cell hrn.out m (by have := HSL.out; omega)
          have hlt4 : (sortN (nms t.F)).getD m [] < (sortN (nms t.F)).getD (m + 1) [] := by
            have h9 := List.pairwise_iff_getElem.1 hpw.out m (m + 1) (by have := HSL.out; omega) (by have := HSL.out; omega) (by omega)
            simpa [List.getD_eq_getElem?_getD, (show m < (sortN (nms t.F)).length by have := HSL.out; omega), (show m + 1 < (sortN (nms t.F)).length by have := HSL.out; omega)] using h9
          obtain ⟨nA, hnA⟩ : ∃ x, (sortN (nms t.F)).getD (m + 1) [] = x := ⟨_, rfl⟩
          obtain ⟨nB, hnB⟩ : ∃ x, (sortN (nms t.F)).getD m [] = x := ⟨_, rfl⟩
          rw [hnA] at cA hlt4
          rw [hnB] at cB hlt4
          clear hnA hnB
          have HLT4 := hide hlt4
          have j1 : (m : Int) + 1 < (i : Int) + 1 := by omega
          have j2 : (0 : Int) ≤ (m : Int) + 1 := by omega
          have j3 : (0 : Int) ≤ (m : Int) := by omega
          have j4 : (m : Int) < (i : Int) + 1 := by omega
          have hc1 : Op.bytesLess nA nB = false := by rw [Proofs.bytesLess_eq]; exact decide_eq_false (List.lt_asymm hlt4)
          have hc2 : (nA == nB) = false := beq_eq_false_iff_ne.2 fun e => by rw [e] at hlt4; exact List.lt_irrefl _ hlt4
          clear hlt4
          go_wp2_with fail
          go_quiet (fail)
          go_wp2_with fail
          exact ⟨⟨m + 1, q + nq, by omega, by go_num, rfl⟩, by simp [intOf]; omega⟩
        · have hmi : m = i := by omega
          subst hmi
          have hltz : ¬ (m : Int) + 1 < (m : Int) + 1 := by omega
          obtain ⟨W9, hW9⟩ : ∃ W9, W8.drewN q = W9 := ⟨_, rfl⟩
          have k9 : Kp [] W8 W9 := by rw [← hW9]; exact (Kp.refl _ _).drewN q
          have f9 := hfile W9 k9
          have y0 := k9.cellv z0 (by simp)
          rw [hW9]
          clear hW9 hfile
          go_wp2_with fail
          refine f9.mono ?_
          rintro e W10 ⟨fv, rfl, ⟨fa, fn, fc, rfl⟩, _, k10⟩
          have c10 := hcount W10 (k9.next k10)
          rw [← HCNT.out] at c10
          have hB10 := hide (hbel.out W10 (k9.next k10))
          clear f9 hcount
          go_wp2_with fail
          refine c10.mono ?_
          rintro e w' ⟨rfl, rfl⟩
          go_wp2_with fail
          go_ret
          exact ⟨rfl, hB10.out⟩
end Go.Proofs.YtnffagpdnklnkaaGreatDoor.Pak
