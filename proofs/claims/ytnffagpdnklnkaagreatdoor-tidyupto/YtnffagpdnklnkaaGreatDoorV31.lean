import Derived.Test.YtnffagpdnklnkaaGreatDoorV30
import Derived.Test.YtnffagpdnklnkaaGreatDoorV24
import Derived.Test.YtnffagpdnklnkaaGreatDoorV23
set_option linter.unusedVariables false
set_option linter.unusedSimpArgs false
set_option maxRecDepth 8000
namespace Go.Proofs.YtnffagpdnklnkaaGreatDoor.Pak
open Go.RowKit Go.Proofs.YtnffagpdnklnkaaGreatDoor Go.Proofs.YtnffagpdnklnkaaGreatDoor.Spl SiftM
/-- The parts are still there; what was dead in them is dead. -/
def KeptP (Ps Ps' : List PPt) : Prop := ∀ t ∈ Ps, ∃ t' ∈ Ps', t'.p = t.p ∧ t'.T = t.T ∧ ∀ d, t.dead.testBit d = true → t'.dead.testBit d = true
theorem KeptP.refl (Ps : List PPt) : KeptP Ps Ps := fun t ht => ⟨t, ht, rfl, rfl, fun _ h => h⟩
theorem KeptP.trans {a b c : List PPt} (h : KeptP a b) (k : KeptP b c) : KeptP a c := fun t ht => by
  obtain ⟨t1, h1, p1, T1, d1⟩ := h t ht
  obtain ⟨t2, h2, p2, T2, d2⟩ := k t1 h1
  exact ⟨t2, h2, p2.trans p1, T2.trans T1, fun d hd => d2 d (d1 d hd)⟩
theorem kept_kill (Ps : List PPt) (p d : Nat) : KeptP Ps (killAt Ps p d) := fun t ht => by
  refine ⟨_, List.mem_map.2 ⟨t, ht, rfl⟩, ?_⟩
  split
  · exact ⟨rfl, rfl, fun e he => by simp [PPt.more, Nat.testBit_or, he]⟩
  · exact ⟨rfl, rfl, fun _ h => h⟩
theorem kept_app (Ps Ps' : List PPt) : KeptP Ps (Ps ++ Ps') := fun t ht => ⟨t, List.mem_append_left _ ht, rfl, rfl, fun _ h => h⟩
/-- Of the index's own cells these stay. -/
def Rest (s s' : PSt) : Prop := s'.buf = s.buf ∧ s'.fac = s.fac ∧ s'.fv = s.fv ∧ s'.last = s.last ∧ s'.lit = s.lit ∧ s'.left = s.left ∧ s'.mv = s.mv ∧ s'.R = s.R ∧ s'.hb = s.hb ∧ KeptP s.Ps s'.Ps
theorem Rest.refl (s : PSt) : Rest s s := ⟨rfl, rfl, rfl, rfl, rfl, rfl, rfl, rfl, rfl, KeptP.refl _⟩
theorem Rest.trans {a b c : PSt} (h : Rest a b) (k : Rest b c) : Rest a c := by
  obtain ⟨h1, h2, h3, h4, h5, h6, h7, h8, h9, h10⟩ := h
  obtain ⟨k1, k2, k3, k4, k5, k6, k7, k8, k9, k10⟩ := k
  exact ⟨k1.trans h1, k2.trans h2, k3.trans h3, k4.trans h4, k5.trans h5, k6.trans h6, k7.trans h7, k8.trans h8, k9.trans h9, h10.trans k10⟩
theorem SortT.sub {T T' : List Tx} (h : SortT T) (hs : T'.Sublist T) : SortT T' := List.Pairwise.sublist hs h

set_option maxHeartbeats 4000000 in
theorem drop_any (X B id : Nat) (O : List Nat) (s : PSt) (w : World) (h : PIs w X B O s) (hid : id ≤ 99999) :
    Calls Tryz.prog 111 #[.pointer (some ⟨X, 0, none⟩), .int .i64 (id : Int)] w fun e w' => e = .returned (.tuple #[]) ∧ ∃ s', PIs w' X B (grow O w w') s' ∧ s'.abs = s.abs.gone id ∧ Rest s s' ∧ Kp O w w' := by
  obtain ⟨x0, x6, x7, x8, x9, x10, xf⟩ := px_cells h
  have hG60 : s.G.length ≤ 60 := by have := h.all60; omega
  have hgat := gatAt_any X B id s.gv s.G s.gs w x7 h.gath h.sort hG60
  have hah := ahead_has s.G h.sort id
  -- behind the first half
  have half : ∀ (W : World) (s1 : PSt), PIs W X B O s1 → Kp O w W → s1.abs = { s.abs with T := s.G.filter fun t => !decide (t.1 = id) } → Rest s s1 →
      ∃ s2, dropP s1 id = s2 ∧ ∀ W', PIs W' X B O s2 → Kp O W W' → ∃ s', PIs W' X B (grow O w W') s' ∧ s'.abs = s.abs.gone id ∧ Rest s s' ∧ Kp O w W' := by
    intro W s1 h1 k1 a1 r1
    refine ⟨_, rfl, fun W' h2 k2 => ⟨_, h2.more (fun g hg => mem_grow.2 (.inl hg)), ?_, r1.trans ?_, k1.next k2⟩⟩
    · rw [dropP_abs h1, a1]; rfl
    · unfold dropP
      split
      · exact Rest.refl _
      · exact ⟨rfl, rfl, rfl, rfl, rfl, rfl, rfl, rfl, rfl, kept_kill _ _ _⟩
  have HH := hide h
  have HALF := hide half
  clear h half x0 x6 x8 x10
  by_cases hin : id ∈ s.G.map Prod.fst
  · obtain ⟨hlt, hat⟩ := hah.1 hin
    have hflt := cut_filter s.G HH.out.sort id hin
    rw [show decide (id ∈ s.G.map Prod.fst) = true by simpa using hin] at hgat
    obtain ⟨i, hi⟩ : ∃ i, aheadN s.G id = i := ⟨_, rfl⟩
    rw [hi] at hgat hlt hflt
    obtain ⟨n, hn⟩ : ∃ n, s.G.length = n := ⟨_, rfl⟩
    have HN := hide hn
    have HFL := hide hflt
    rw [hn] at hlt hG60
    have HX := hide HH.out.blk
    clear hah hat hi hflt hin hn
    go_enter Tryz.func111, Tryz.ntmps111
    go_wp2_with fail
    refine hgat.mono ?_
    rintro e w1 ⟨rfl, k1⟩
    have y7 := k1.cellv x7 (by simp)
    have y9 := k1.cellv x9 (by simp)
    have h1 := HH.out.kp k1 (by simp)
    have hrow := h1.gath.row
    rw [HN.out] at hrow
    have hdel := gdelete_any B n i s.gv _ w1 hrow hlt (by omega) (texts_one h1.gath)
    obtain ⟨a, c, eg, _⟩ := owns_forms hrow
    have HE := hide eg
    rw [eg] at y7 hdel
    have H1 := hide h1
    clear hgat h1 hrow eg
    go_wp2_with fail
    refine hdel.mono ?_
    rintro e w2 ⟨v2, rfl, ho2, hob2, k2⟩
    rw [← HE.out] at hob2 k2
    have hX2 : w2.heap[X]? = some (.cells (pxC s) 72 (0, 0)) := k2.heap H1.out.blk (fun hx => owns_ne_type H1.out.gath.row H1.out.blk (by decide) (by simpa using hx))
    have hf2 : w2.frozen? ⟨X, 7, none⟩ = false := by simp [World.frozen?, hX2]
    have hc2 : w2.cell? ⟨X, 7, none⟩ = some s.gv := by simp [World.cell?, hX2, pxC, pxA]
    obtain ⟨a2, c2, e2, _⟩ := owns_forms ho2
    subst e2
    obtain ⟨W3, hW3⟩ : ∃ W3, w2.setCell ⟨X, 7, none⟩ (.slice a2 (n - 1) c2) = W3 := ⟨_, rfl⟩
    have kX : Kp [X] w2 W3 := by rw [← hW3]; exact kp_set w2 X 7 _
    have hX3 : W3.heap[X]? = some (.cells (pxC { s with gv := .slice a2 (n - 1) c2, G := cutAt s.G i, gs := cutAt s.gs i }) 72 (0, 0)) := by
      rw [← hW3, heap_setCell_same w2 X 7 _ 72 _ hX2, pxC_set7]; rfl
    have k13 : Kp (X :: s.gv.ownBlock.toList) w1 W3 := (k2.mono (fun x hx => List.mem_cons_of_mem _ hx)).next (kX.mono (by simp))
    have hS13 : ∀ x ∈ X :: s.gv.ownBlock.toList, x = X ∨ s.gv.ownBlock = some x := fun x hx => by
      rcases List.mem_cons.1 hx with e | e
      · exact .inl e
      · exact .inr (by simpa using e)
    obtain ⟨_, _, _, hk9⟩ := H1.out.restG k13 hS13
    have hT3 : TextsIs W3 B (.slice a2 (n - 1) c2) (cutAt s.G i) (cutAt s.gs i) := by
      refine texts_cut H1.out.gath (by rw [HN.out]; exact hlt) ?_ hk9
      rw [HN.out]
      exact kX.owns ho2 (fun gg hgg hx => by
        simp at hx; subst hx
        exact owns_ne_type ho2 hX2 (by decide) hgg)
    have hs3 : PIs W3 X B O { s with gv := .slice a2 (n - 1) c2, G := cutAt s.G i, gs := cutAt s.gs i } := by
      have hsub := cut_sub s.G i
      refine H1.out.turnG k13 hS13 hX3 hT3 (fun t ht => H1.out.word t (mem_cut ht)) (H1.out.sort.sub hsub) ?_ ?_ (fun g hg => hg) ?_ ?_
      · have := hsub.length_le
        have := H1.out.all60
        omega
      · exact (List.Sublist.append (hsub.map _) (List.Sublist.refl _)).nodup H1.out.nodup
      · intro g hg
        rw [hob2] at hg
        exact ⟨H1.out.inG g hg, H1.out.outG g hg⟩
      · intro u hu g hg
        exact H1.out.inW u (mem_cut hu) g hg
    have kO : Kp O w W3 := (k1.mono (by simp)).next (k13.mono fun x hx => by
      rcases hS13 x hx with rfl | e
      · exact H1.out.inX
      · exact H1.out.inG x e)
    obtain ⟨s2, hs2, hfin⟩ := HALF.out W3 _ hs3 kO (by unfold PSt.abs; simp only; rw [HFL.out]) ⟨rfl, rfl, rfl, rfl, rfl, rfl, rfl, rfl, rfl, KeptP.refl _⟩
    have H3 := hide hs3
    have HS2 := hide hs2
    have HFIN := hide hfin
    have z9 : W3.cell? ⟨X, 9, none⟩ = some (.map (some s.hb)) := (px_cells hs3).2.2.2.2.1
    obtain ⟨v, hlook, hv1, hv2⟩ := hs3.hom.look id (by omega)
    clear hdel ho2 hX2 hX3 hT3 hs3 hs2 hfin hk9 k13 hS13
    cases hf : homF s.Ps id with
    | none =>
      have e1 := hv2 hf
      rw [e1, show (homF s.Ps id).isSome = false by rw [hf]; rfl] at hlook
      have hd : s2 = { s with gv := .slice a2 (n - 1) c2, G := cutAt s.G i, gs := cutAt s.gs i } := by rw [← HS2.out]; unfold dropP; simp only [hf]
      clear hv1 hv2 e1
      go_wp2_with (simp only [hlook])
      go_end0
      refine ⟨rfl, HFIN.out _ ?_ ((Kp.refl _ _).alloc _)⟩
      rw [hd]
      exact H3.out.kp (S := []) ((Kp.refl _ _).alloc _) (by simp)
    | some x =>
      obtain ⟨p, d⟩ := x
      have e1 := hv1 (p, d) hf
      rw [e1, show (homF s.Ps id).isSome = true by rw [hf]; rfl] at hlook
      unfold homV at hlook
      simp only at hlook
      have hd : s2 = { { s with gv := .slice a2 (n - 1) c2, G := cutAt s.G i, gs := cutAt s.gs i } with Ps := killAt s.Ps p d } := by rw [← HS2.out]; unfold dropP; simp only [hf]
      have hnd : ((homL s.Ps).map Prod.fst).Nodup := (List.pairwise_append.1 HH.out.nodup).2.1
      have hx := (homF_some hnd id (p, d)).1 hf
      obtain ⟨t, ht, hh⟩ := mem_homL.1 hx
      have hm := homes_mem hh
      simp only at hm
      have hpt := H3.out.each t ht
      have hpc := hpt.cells
      rw [← hm.1] at hpc
      have hd60 : d < 60 := Nat.lt_of_lt_of_le hm.2.1 hpt.fine.len
      have hdl := hpt.dlt
      have htd : ∀ u ∈ s.Ps, u.p = p → u.dead = t.dead := fun u hu e => by rw [apart_eq HH.out.apart hu ht (by rw [e, hm.1])]
      have HPC := hide hpc
      have HHM := hide hh
      have HX3 := hide hx
      have HTD := hide htd
      obtain ⟨dead, hdead⟩ : ∃ dead, t.dead = dead := ⟨_, rfl⟩
      rw [hdead] at hpc hdl HPC HTD
      obtain ⟨p0, p1, pf0, pf1⟩ := rd_cells hpc
      obtain ⟨W4, hW4⟩ : ∃ W4, W3.alloc (.cells #[.pointer (some ⟨p, 0, none⟩), .int .i64 (d : Int)] 195) = W4 := ⟨_, rfl⟩
      have k34 : Kp [] W3 W4 := by rw [← hW4]; exact (Kp.refl _ _).alloc _
      have hn4 : W4.heap[W3.heap.size]? = some (.cells #[.pointer (some ⟨p, 0, none⟩), .int .i64 (d : Int)] 195 (0, 0)) := by rw [← hW4]; exact heap_alloc_new W3 _
      obtain ⟨b0, b1, _, _⟩ := rd_cells hn4
      have q1 := k34.cellv p1 (by simp)
      have qf : W4.frozen? ⟨p, 1, none⟩ = false := by
        have := k34.heap hpc (by simp)
        simp [World.frozen?, this]
      clear hv1 hv2 e1 hpt hpc hh hm htd hx p0 pf0 pf1 hn4
      have z94 := k34.cellv z9 (by simp)
      obtain ⟨W5, hW5⟩ : ∃ W5, W4.drew.setCell ⟨p, 1, none⟩ (.int .u64 ((dead ||| 2 ^ d : Nat) : Int)) = W5 := ⟨_, rfl⟩
      have k45 : Kp [p] W4 W5 := by rw [← hW5]; exact Kp.next (b := W4.drew) ⟨rfl, rfl, rfl, Nat.le_refl _, fun _ _ _ => rfl⟩ (kp_set W4.drew p 1 _)
      have hp5 : W5.heap[p]? = some (.cells #[.pointer (some ⟨t.q, 0, none⟩), .int .u64 ((dead ||| 2 ^ d : Nat) : Int)] 81 (0, 0)) := by
        rw [← hW5, heap_setCell_same W4.drew p 1 _ 81 _ (k34.heap HPC.out (by simp))]; rfl
      have k35 : Kp [p] W3 W5 := (k34.mono (by simp)).next k45
      obtain ⟨es, ck, hmap⟩ := H3.out.hmap
      have hm5 : HomIs W5 s.hb (homL s.Ps).length (homF s.Ps) := H3.out.hom.kp k35 (fun hx => by simp at hx; exact cells_map HPC.out hmap hx.symm)
      have hX5 : X ≠ p := cells_ne H3.out.blk HPC.out (by decide)
      have z95 : W5.cell? ⟨X, 9, none⟩ = some (.map (some s.hb)) := k45.cellv z94 (by simpa using hX5)
      obtain ⟨W6, hdrop, hm6, k6⟩ := hm5.drop id (by omega) 0
      rw [hf] at hm6
      have k36 : Kp [p, s.hb] W3 W6 := (k35.mono (by simp)).next (k6.mono (by simp))
      have hp6 := k6.heap hp5 (fun hx => by simp at hx; exact cells_map HPC.out hmap hx)
      have hnew := H3.out.kill HX3.out HTD.out hd60 k36 ⟨_, HPC.out, hp6⟩ hm6
      have kO6 : Kp O W3 W6 := k36.mono fun x hx => by
        simp at hx
        rcases hx with rfl | rfl
        · have := H3.out.inT t ht
          rw [show t.p = x from (homes_mem HHM.out).1.symm] at this
          exact this
        · exact H3.out.inH
      have HNEW := hide hnew
      clear hm5 hm6 hp5 hp6 hnew hmap
      go_wp2_with (simp only [hlook])
      go_region_with (go_at_call 120; refine (with_any dead d W4.drew hdl (by omega)).mono ?_; rintro r w5 ⟨rfl, rfl⟩)
      all_goals
        try rw [hW5]
        go_wp2_with (simp only [hdrop])
        go_end0
        exact ⟨rfl, HFIN.out _ (by rw [hd]; exact HNEW.out) kO6⟩
  · have hno : decide (id ∈ s.G.map Prod.fst) = false := by simpa using hin
    rw [hno] at hgat
    have hflt := filter_not s.G id hin
    have HFL := hide hflt
    clear hah hflt hin hno
    go_enter Tryz.func111, Tryz.ntmps111
    go_wp2_with fail
    refine hgat.mono ?_
    rintro e W3 ⟨rfl, k1⟩
    have z9 := k1.cellv x9 (by simp)
    have hs3 := HH.out.kp k1 (by simp)
    obtain ⟨s2, hs2, hfin⟩ := HALF.out W3 _ hs3 (k1.mono (by simp)) (by unfold PSt.abs; simp only; rw [HFL.out]) (Rest.refl _)
    have H3 := hide hs3
    have HS2 := hide hs2
    have HFIN := hide hfin
    obtain ⟨v, hlook, hv1, hv2⟩ := hs3.hom.look id (by omega)
    clear hgat hs3 hs2 hfin
    cases hf : homF s.Ps id with
    | none =>
      have e1 := hv2 hf
      rw [e1, show (homF s.Ps id).isSome = false by rw [hf]; rfl] at hlook
      have hd : s2 = s := by rw [← HS2.out]; unfold dropP; simp only [hf]
      clear hv1 hv2 e1
      go_wp2_with (simp only [hlook])
      go_end0
      refine ⟨rfl, HFIN.out _ ?_ ((Kp.refl _ _).alloc _)⟩
      rw [hd]
      exact H3.out.kp (S := []) ((Kp.refl _ _).alloc _) (by simp)
    | some x =>
      obtain ⟨p, d⟩ := x
      have e1 := hv1 (p, d) hf
      rw [e1, show (homF s.Ps id).isSome = true by rw [hf]; rfl] at hlook
      unfold homV at hlook
      simp only at hlook
      have hd : s2 = { s with Ps := killAt s.Ps p d } := by rw [← HS2.out]; unfold dropP; simp only [hf]
      have hnd : ((homL s.Ps).map Prod.fst).Nodup := (List.pairwise_append.1 HH.out.nodup).2.1
      have hx := (homF_some hnd id (p, d)).1 hf
      obtain ⟨t, ht, hh⟩ := mem_homL.1 hx
      have hm := homes_mem hh
      simp only at hm
      have hpt := H3.out.each t ht
      have hpc := hpt.cells
      rw [← hm.1] at hpc
      have hd60 : d < 60 := Nat.lt_of_lt_of_le hm.2.1 hpt.fine.len
      have hdl := hpt.dlt
      have htd : ∀ u ∈ s.Ps, u.p = p → u.dead = t.dead := fun u hu e => by rw [apart_eq HH.out.apart hu ht (by rw [e, hm.1])]
      have HPC := hide hpc
      have HHM := hide hh
      have HX3 := hide hx
      have HTD := hide htd
      obtain ⟨dead, hdead⟩ : ∃ dead, t.dead = dead := ⟨_, rfl⟩
      rw [hdead] at hpc hdl HPC HTD
      obtain ⟨p0, p1, pf0, pf1⟩ := rd_cells hpc
      obtain ⟨W4, hW4⟩ : ∃ W4, W3.alloc (.cells #[.pointer (some ⟨p, 0, none⟩), .int .i64 (d : Int)] 195) = W4 := ⟨_, rfl⟩
      have k34 : Kp [] W3 W4 := by rw [← hW4]; exact (Kp.refl _ _).alloc _
      have hn4 : W4.heap[W3.heap.size]? = some (.cells #[.pointer (some ⟨p, 0, none⟩), .int .i64 (d : Int)] 195 (0, 0)) := by rw [← hW4]; exact heap_alloc_new W3 _
      obtain ⟨b0, b1, _, _⟩ := rd_cells hn4
      have q1 := k34.cellv p1 (by simp)
      have qf : W4.frozen? ⟨p, 1, none⟩ = false := by
        have := k34.heap hpc (by simp)
        simp [World.frozen?, this]
      clear hv1 hv2 e1 hpt hpc hh hm htd hx p0 pf0 pf1 hn4
      have z94 := k34.cellv z9 (by simp)
      obtain ⟨W5, hW5⟩ : ∃ W5, W4.drew.setCell ⟨p, 1, none⟩ (.int .u64 ((dead ||| 2 ^ d : Nat) : Int)) = W5 := ⟨_, rfl⟩
      have k45 : Kp [p] W4 W5 := by rw [← hW5]; exact Kp.next (b := W4.drew) ⟨rfl, rfl, rfl, Nat.le_refl _, fun _ _ _ => rfl⟩ (kp_set W4.drew p 1 _)
      have hp5 : W5.heap[p]? = some (.cells #[.pointer (some ⟨t.q, 0, none⟩), .int .u64 ((dead ||| 2 ^ d : Nat) : Int)] 81 (0, 0)) := by
        rw [← hW5, heap_setCell_same W4.drew p 1 _ 81 _ (k34.heap HPC.out (by simp))]; rfl
      have k35 : Kp [p] W3 W5 := (k34.mono (by simp)).next k45
      obtain ⟨es, ck, hmap⟩ := H3.out.hmap
      have hm5 : HomIs W5 s.hb (homL s.Ps).length (homF s.Ps) := H3.out.hom.kp k35 (fun hx => by simp at hx; exact cells_map HPC.out hmap hx.symm)
      have hX5 : X ≠ p := cells_ne H3.out.blk HPC.out (by decide)
      have z95 : W5.cell? ⟨X, 9, none⟩ = some (.map (some s.hb)) := k45.cellv z94 (by simpa using hX5)
      obtain ⟨W6, hdrop, hm6, k6⟩ := hm5.drop id (by omega) 0
      rw [hf] at hm6
      have k36 : Kp [p, s.hb] W3 W6 := (k35.mono (by simp)).next (k6.mono (by simp))
      have hp6 := k6.heap hp5 (fun hx => by simp at hx; exact cells_map HPC.out hmap hx)
      have hnew := H3.out.kill HX3.out HTD.out hd60 k36 ⟨_, HPC.out, hp6⟩ hm6
      have kO6 : Kp O W3 W6 := k36.mono fun x hx => by
        simp at hx
        rcases hx with rfl | rfl
        · have := H3.out.inT t ht
          rw [show t.p = x from (homes_mem HHM.out).1.symm] at this
          exact this
        · exact H3.out.inH
      have HNEW := hide hnew
      clear hm5 hm6 hp5 hp6 hnew hmap
      go_wp2_with (simp only [hlook])
      go_region_with (go_at_call 120; refine (with_any dead d W4.drew hdl (by omega)).mono ?_; rintro r w5 ⟨rfl, rfl⟩)
      all_goals
        try rw [hW5]
        go_wp2_with (simp only [hdrop])
        go_end0
        exact ⟨rfl, HFIN.out _ (by rw [hd]; exact HNEW.out) kO6⟩
theorem PIs.fine {w : World} {X B : Nat} {O : List Nat} {s : PSt} (h : PIs w X B O s) : Fine s.G := by
  have := h.all60
  exact ⟨by omega, rs_sorted s.G 0 h.sort (fun _ _ => Nat.zero_le _), fun t ht => (h.word t ht).1, fun t ht => (h.word t ht).2.1, fun t ht => (h.word t ht).2.2.1, fun t ht => (h.word t ht).2.2.2⟩
theorem homes_zero {t : PPt} (h : t.dead = 0) : t.homes.map Prod.fst = t.T.map Prod.fst := by
  unfold PPt.homes
  rw [h]
  have e : ((List.range t.T.length).filter fun d => !(0 : Nat).testBit d) = List.range t.T.length := by
    rw [List.filter_eq_self]
    intro d _
    simp
  rw [e, List.map_map]
  apply List.ext_getElem
  · simp
  · intro i h1 h2
    have hi : i < t.T.length := by simpa using h1
    simp [hi]
theorem flags_zero {t : PPt} (h : t.dead = 0) : t.flags = List.replicate t.T.length false := by
  unfold PPt.flags
  rw [h]
  apply List.ext_getElem
  · simp
  · intro i h1 h2; simp
def flushedP (s : PSt) (t : PPt) (pv : Value) : PSt := { s with gv := .slice none 0 0, G := [], gs := [], pv := pv, Ps := s.Ps ++ [t], next := s.next + 1 }
/-- Behind a flush the program's index is as it must be. -/
theorem flushP_is {w w' : World} {X B : Nat} {O : List Nat} {s : PSt} {t : PPt} {pv : Value} (h : PIs w X B O s) (htn : t.num = s.next) (htT : t.T = s.G) (htd : t.dead = 0) (hnew : NewPt w w' t) (hX : w'.heap[X]? = some (.cells (pxC (flushedP s t pv)) 72 (0, 0)))
    (hP : w'.ownsRow B 76 1 pv (s.Ps.length + 1) (ptV s.Ps ++ [.pointer (some ⟨t.p, 0, none⟩)])) (hm : HomIs w' s.hb (homFold s.G t.p (bitsOf (aliveN s.G.length 0)) ((homL s.Ps).length, homF s.Ps)).1 (homFold s.G t.p (bitsOf (aliveN s.G.length 0)) ((homL s.Ps).length, homF s.Ps)).2)
    (hpv : ∀ g, pv.ownBlock = some g → s.pv.ownBlock = some g ∨ t.hi ≤ g) (k : Kp (X :: s.hb :: s.pv.ownBlock.toList) w w') : PIs w' X B (grow O w w') (flushedP s t pv) := by
  have hO : ∀ g ∈ O, g ∈ grow O w w' := fun g hg => mem_grow.2 (.inl hg)
  have e : homL (s.Ps ++ [t]) = homL s.Ps ++ t.homes := by unfold homL; simp
  have hids : (homL (s.Ps ++ [t])).map Prod.fst = (homL s.Ps).map Prod.fst ++ s.G.map Prod.fst := by
    rw [e, List.map_append, homes_zero htd, htT]
  have hnd : ((homL (s.Ps ++ [t])).map Prod.fst).Nodup := by
    rw [hids]
    exact (List.perm_append_comm.nodup_iff).1 h.nodup
  have hlen : (homL (s.Ps ++ [t])).length = s.G.length + (homL s.Ps).length := by
    have := congrArg List.length hids
    simp at this
    omega
  have hhh := hold_homes (Ps := s.Ps) (t := t) (by rw [htT]; exact h.fine.len) (by rw [htd]; decide) hnd
  rw [htT, htd] at hhh
  rw [hhh.1, hhh.2] at hm
  have hz := k.size
  have hlo := hnew.lo
  have hhi := hnew.hi
  have hpl := hnew.pl
  have hph := hnew.ph
  have hle := hnew.le
  have hXlt := heap_lt h.blk
  have hHlt := h.hom.lt
  have hplt : ∀ u ∈ s.Ps, u.p < w.heap.size := fun u hu => heap_lt (h.each u hu).cells
  have hS : ∀ x ∈ X :: s.hb :: s.pv.ownBlock.toList, x = X ∨ x = s.hb ∨ s.pv.ownBlock = some x := fun x hx => by
    rcases List.mem_cons.1 hx with e | hx
    · exact .inl e
    · rcases List.mem_cons.1 hx with e | hx
      · exact .inr (.inl e)
      · exact .inr (.inr (by simpa using hx))
  obtain ⟨es, ck, hmap⟩ := h.hmap
  have hmem : ∀ u ∈ s.Ps ++ [t], u ∈ s.Ps ∨ u = t := fun u hu => by simpa using hu
  have hout : ∀ g, OutS s.Ps g → g < t.lo ∨ t.hi ≤ g → OutS (s.Ps ++ [t]) g := fun g h1 h2 u hu => by
    rcases hmem u hu with hu | rfl
    · exact h1 u hu
    · exact h2
  refine ⟨hX, h.rd, Nat.le_trans h.low k.size, TextsIs.nil _ _, fun t ht => by simp [flushedP] at ht, List.Pairwise.nil, ?_, ?_, hm, ?_, ?_, ?_, hO X h.inX, fun g hg => by simp [flushedP, Value.ownBlock] at hg, fun u hu => by simp [flushedP] at hu, ?_, hO _ h.inH, ?_, ?_, ?_, fun g hg => by simp [flushedP, Value.ownBlock] at hg, ?_, ?_, ?_, ?_, ?_⟩
  · show w'.ownsRow B 76 1 pv (s.Ps ++ [t]).length (ptV (s.Ps ++ [t]))
    rw [List.length_append]
    have : ptV (s.Ps ++ [t]) = ptV s.Ps ++ [.pointer (some ⟨t.p, 0, none⟩)] := by simp [ptV]
    rw [this]
    exact hP
  · intro u hu
    rcases hmem u hu with hu | rfl
    · refine (h.each u hu).kp k (fun hx => ?_) (fun x hx => ?_)
      · rcases hS _ hx with e | e | e
        · exact cells_ne (h.each u hu).cells h.blk (by decide) e
        · exact cells_map (h.each u hu).cells hmap e
        · exact owns_ne_type h.parts (h.each u hu).cells (by decide) e
      · rcases hS x hx with rfl | rfl | e
        · exact h.outX u hu
        · exact h.outH u hu
        · exact h.outP x e u hu
    · exact hnew.is
  · show (s.Ps ++ [t]).length ≤ s.next + 1
    have := h.cnt
    simp; omega
  · show 0 + (homL (s.Ps ++ [t])).length ≤ 60
    have := h.all60
    omega
  · show ([] ++ (homL (s.Ps ++ [t])).map Prod.fst).Nodup
    exact hnd
  · intro g hg
    rcases hpv g hg with h1 | h1
    · exact hO g (h.inP g h1)
    · exact mem_grow.2 (.inr ⟨by omega, (hP.lt g hg).2⟩)
  · intro u hu
    rcases hmem u hu with hu | rfl
    · exact hO _ (h.inT u hu)
    · exact mem_grow.2 (.inr ⟨by omega, hph⟩)
  · intro u hu x h1 h2
    rcases hmem u hu with hu | rfl
    · exact hO x (h.inS u hu x h1 h2)
    · exact mem_grow.2 (.inr ⟨by omega, by omega⟩)
  · exact hout X h.outX (.inl (by omega))
  · intro g hg
    rcases hpv g hg with h1 | h1
    · exact hout g (h.outP g h1) (.inl (by have := (h.parts.lt g h1).2; omega))
    · refine hout g (fun u hu => .inr ?_) (.inr h1)
      have := h.hiLe u hu
      omega
  · exact hout s.hb h.outH (.inl (by omega))
  · intro u hu
    rcases hmem u hu with hu | rfl
    · exact hout _ (h.outT u hu) (.inl (by have := hplt u hu; omega))
    · refine hout _ (fun v hv => .inr ?_) (.inr hpl)
      have := h.hiLe v hv
      omega
  · intro u hu
    rcases hmem u hu with hu | rfl
    · exact Nat.le_trans (h.hiLe u hu) hz
    · exact hhi
  · show (s.Ps ++ [t]).Pairwise _
    rw [List.pairwise_append]
    refine ⟨h.apart, List.pairwise_singleton _ _, fun u hu v hv => ?_⟩
    simp at hv
    subst hv
    have := hplt u hu
    omega
theorem flushP_abs {w : World} {X B : Nat} {O : List Nat} {s : PSt} {t : PPt} {pv : Value} (h : PIs w X B O s) (hne : s.G ≠ []) (htn : t.num = s.next) (htT : t.T = s.G) (htd : t.dead = 0) : (flushedP s t pv).abs = s.abs.flush := by
  have hso := sortX_eq (List.Perm.refl s.G) h.sort
  unfold DSt.flush
  have e : s.abs.T ≠ [] := hne
  rw [if_neg e]
  unfold PSt.abs flushedP
  simp only [List.map_append, List.map_cons, List.map_nil]
  unfold PPt.abs
  rw [htn, htT, flags_zero htd, htT, ← hso]
set_option maxHeartbeats 2000000 in
theorem flush_any (X B : Nat) (O : List Nat) (s : PSt) (w : World) (h : PIs w X B O s) (hTab : Tab64 w) (hB0 : 1 < B) (hnx : s.next < 1000000) :
    Calls Tryz.prog 18 #[.pointer (some ⟨X, 0, none⟩)] w fun e w' => e = .returned (.bool (!decide (s.abs.T = []))) ∧ ∃ s', PIs w' X B (grow O w w') s' ∧ s'.abs = s.abs.flush ∧ Rest s s' ∧ Kp O w w' := by
  obtain ⟨x0, x6, x7, x8, x9, x10, xf⟩ := px_cells h
  obtain ⟨ag, cg, eg, _⟩ := owns_forms h.gath.row
  obtain ⟨n, hn⟩ : ∃ n, s.G.length = n := ⟨_, rfl⟩
  rw [hn] at eg
  by_cases hG : s.G = []
  · have hn0 : n = 0 := by rw [← hn, hG]; rfl
    subst hn0
    rw [eg] at x7
    have e : s.abs.T = [] := hG
    have HH := hide h
    rw [show decide (s.abs.T = []) = true by simpa using e]
    clear h
    go_enter Tryz.func18, Tryz.ntmps18
    go_wp2_with fail
    go_ret
    exact ⟨rfl, s, HH.out.more (fun g hg => mem_grow.2 (.inl hg)), by unfold DSt.flush; rw [if_pos e], Rest.refl _, Kp.refl _ _⟩
  · have hnp : 0 < n := by rw [← hn]; exact List.length_pos_iff.2 hG
    have hn1 : ((n : Int) == 0) = false := by rw [beq_eq_false_iff_ne]; omega
    have e : ¬ s.abs.T = [] := hG
    rw [show decide (s.abs.T = []) = false by simpa using e]
    have hc60 : (homL s.Ps).length ≤ 1000000 := by have := h.all60; omega
    have hlay := lay_any X B (homL s.Ps).length 0 s s.G s.gv s.gs (homF s.Ps) w h.blk h.parts h.gath h.fine h.hom hTab hB0 h.low (by have := h.cnt; omega) hc60 (by omega) (Nat.two_pow_pos _)
    have HH := hide h
    rw [eg] at x7
    rw [eg] at hlay
    clear h hTab x0 x6 x8 x9 x10
    go_enter Tryz.func18, Tryz.ntmps18
    go_wp2_with fail
    refine hlay.mono ?_
    rintro r w1 ⟨rfl, t, pv, ⟨htn, htT, htd⟩, hnew, hX1, hP1, hm1, hpv, k1⟩
    have yf : w1.frozen? ⟨X, 7, none⟩ = false := by simp [World.frozen?, hX1]
    have y7 : w1.cell? ⟨X, 7, none⟩ = some (.slice ag n cg) := by simp [World.cell?, hX1, pxC, pxA]
    have HX1 := hide hX1
    have HP1 := hide hP1
    have HM1 := hide hm1
    have HNEW := hide hnew
    clear hlay hX1 hP1 hm1 hnew
    go_wp2_with fail
    go_ret
    obtain ⟨W2, hW2⟩ : ∃ W2, w1.setCell ⟨X, 7, none⟩ (.slice none 0 0) = W2 := ⟨_, rfl⟩
    rw [hW2]
    have kX : Kp [X] w1 W2 := by rw [← hW2]; exact kp_set w1 X 7 _
    have hX2 : W2.heap[X]? = some (.cells (pxC (flushedP s t pv)) 72 (0, 0)) := by
      rw [← hW2, heap_setCell_same w1 X 7 _ 72 _ HX1.out, pxC_set7]; rfl
    have hXlt := heap_lt HH.out.blk
    have hlo := HNEW.out.lo
    have hpl := HNEW.out.pl
    have hle := HNEW.out.le
    have hz2 := kX.size
    have hnew2 : NewPt w W2 t := ⟨HNEW.out.lo, Nat.le_trans HNEW.out.hi kX.size, HNEW.out.pl, Nat.lt_of_lt_of_le HNEW.out.ph kX.size, HNEW.out.le, HNEW.out.is.kp kX (by simp; omega) (fun x hx => by simp at hx; subst hx; exact .inl (by omega))⟩
    obtain ⟨es, ck, hmap⟩ := HM1.out.block
    have hfin := flushP_is HH.out htn htT htd hnew2 hX2 (kX.owns HP1.out (fun gg hgg hx => by
      simp at hx; subst hx
      exact owns_ne_type HP1.out HX1.out (by decide) hgg)) (HM1.out.kp kX (fun hx => by simp at hx; exact cells_map HX1.out hmap hx.symm)) hpv (k1.next (kX.mono (by simp)))
    refine ⟨rfl, _, hfin, flushP_abs HH.out hG htn htT htd, ⟨rfl, rfl, rfl, rfl, rfl, rfl, rfl, rfl, rfl, kept_app _ _⟩, (k1.next (kX.mono (by simp))).mono fun x hx => ?_⟩
    rcases List.mem_cons.1 hx with rfl | hx
    · exact HH.out.inX
    · rcases List.mem_cons.1 hx with rfl | hx
      · exact HH.out.inH
      · exact HH.out.inP x (by simpa using hx)
theorem ins_sorted (T : List Tx) (hs : SortT T) (t : Tx) (hno : t.1 ∉ T.map Prod.fst) : SortT (insAt T (aheadN T t.1) t) := by
  have hat := ahead_at T hs t.1
  unfold SortT insAt
  rw [List.append_assoc, List.pairwise_append]
  have hle := ahead_le T t.1
  refine ⟨hs.sublist (List.take_sublist _ _), ?_, ?_⟩
  · rw [List.singleton_append, List.pairwise_cons]
    refine ⟨fun u hu => ?_, hs.sublist (List.drop_sublist _ _)⟩
    obtain ⟨i, hi, rfl⟩ := List.mem_iff_getElem.1 hu
    rw [List.length_drop] at hi
    rw [List.getElem_drop]
    have h1 : ¬ T[aheadN T t.1 + i].1 < t.1 := fun h => by
      have := (hat (aheadN T t.1 + i) (by omega)).1 h
      omega
    have h2 : T[aheadN T t.1 + i].1 ≠ t.1 := fun e => hno (List.mem_map.2 ⟨_, List.getElem_mem _, e⟩)
    omega
  · intro u hu v hv
    obtain ⟨i, hi, rfl⟩ := List.mem_iff_getElem.1 hu
    rw [List.length_take] at hi
    rw [List.getElem_take]
    have h1 := (hat i (by omega)).2 (by omega)
    rcases List.mem_append.1 hv with h | h
    · simp at h; subst h; exact h1
    · obtain ⟨j, hj, rfl⟩ := List.mem_iff_getElem.1 h
      rw [List.length_drop] at hj
      rw [List.getElem_drop]
      exact List.pairwise_iff_getElem.1 hs i (aheadN T t.1 + j) (by omega) (by omega) (by omega)
set_option maxHeartbeats 4000000 in
theorem gather_any (X B id : Nat) (O : List Nat) (s : PSt) (ws : List (List UInt8)) (a : Option Addr) (m c : Nat) (w : World) (h : PIs w X B O s) (hu : w.ownsRow B 9 1 (.slice a m c) ws.length (strV ws)) (hun : ∀ g, (Value.slice a m c).ownBlock = some g → g ∉ O) (hid : id ≤ 99999)
    (hno : id ∉ s.abs.ids) (h60 : s.abs.all.length < 60) (hw : ws.length ≤ 60 ∧ (lenF ws ≤ 120 ∧ sumL ws ≤ 121) ∧ ∀ x ∈ ws, isWord x = true) :
    Calls Tryz.prog 112 #[.pointer (some ⟨X, 0, none⟩), .agg #[.int .i64 (id : Int), .slice a m c]] w fun e w' => e = .returned (.tuple #[]) ∧ ∃ s', PIs w' X B (grow O w w' ++ (Value.slice a m c).ownBlock.toList) s' ∧ s'.abs = { s.abs with T := insAt s.G (aheadN s.G id) (id, ws) } ∧ (s'.buf = s.buf ∧ s'.fac = s.fac ∧ s'.fv = s.fv ∧ s'.last = s.last ∧ s'.lit = s.lit ∧ s'.left = s.left ∧ s'.mv = s.mv ∧ s'.R = s.R ∧ s'.hb = s.hb ∧ s'.Ps = s.Ps) ∧ Kp O w w' := by
  obtain ⟨x0, x6, x7, x8, x9, x10, xf⟩ := px_cells h
  have hG60 : s.G.length ≤ 60 := by have := h.all60; omega
  obtain ⟨W1, hW1⟩ : ∃ W1, w.alloc (.cells #[.int .i64 (id : Int), .slice a m c] 50) = W1 := ⟨_, rfl⟩
  have k1 : Kp [] w W1 := by rw [← hW1]; exact (Kp.refl _ _).alloc _
  have hn1 : W1.heap[w.heap.size]? = some (.cells #[.int .i64 (id : Int), .slice a m c] 50 (0, 0)) := by rw [← hW1]; exact heap_alloc_new w _
  obtain ⟨b0, b1, _, _⟩ := rd_cells hn1
  have h1 := h.kp k1 (by simp)
  have hgat := gatAt_any X B id s.gv s.G s.gs W1 (k1.cellv x7 (by simp)) h1.gath h1.sort hG60
  have hle := ahead_le s.G id
  have hsrt := ins_sorted s.G h.sort (id, ws) (fun e => hno (by rw [abs_ids]; exact List.mem_append.2 (.inl e)))
  simp only at hsrt
  obtain ⟨i, hi⟩ : ∃ i, aheadN s.G id = i := ⟨_, rfl⟩
  rw [hi] at hgat hle hsrt ⊢
  have HSRT := hide hsrt
  have HU := hide hu
  clear hsrt hu
  obtain ⟨n, hn⟩ : ∃ n, s.G.length = n := ⟨_, rfl⟩
  rw [hn] at hle hG60
  have H1 := hide h1
  have HN := hide hn
  have HN1 := hide hn1
  clear h1 h x0 x6 x8 x9 x10 hn hn1
  go_enter Tryz.func112, Tryz.ntmps112
  go_wp2_with fail
  refine hgat.mono ?_
  rintro e w2 ⟨rfl, k2⟩
  have h2 := H1.out.kp k2 (by simp)
  have y7 : w2.cell? ⟨X, 7, none⟩ = some s.gv := (px_cells h2).2.2.1
  have hrow := h2.gath.row
  rw [HN.out] at hrow
  obtain ⟨ag, cg, eg, _⟩ := owns_forms hrow
  have HE := hide eg
  have d0 := k2.cellv b0 (by simp)
  have d1 := k2.cellv b1 (by simp)
  rw [eg] at y7
  have k23 : Kp [] w2 (w2.alloc (.cells #[.int .i64 (id : Int), .slice a m c] 50)).drew := Kp.next (b := w2.alloc (.cells #[.int .i64 (id : Int), .slice a m c] 50)) ((Kp.refl _ _).alloc _) ⟨rfl, rfl, rfl, Nat.le_refl _, fun _ _ _ => rfl⟩
  have hv3 : (w2.alloc (.cells #[.int .i64 (id : Int), .slice a m c] 50)).drew.heap[w2.heap.size]? = some (.cells #[.int .i64 (id : Int), .slice a m c] 50 (0, 0)) := heap_alloc_new w2 _
  have h3 := h2.kp k23 (by simp)
  have hrow3 := h3.gath.row
  rw [HN.out] at hrow3
  have hgl : s.gv.ownBlock ≠ some w2.heap.size := fun e => by
    have := (hrow.lt _ e).2
    omega
  have hins := ginsert_any B n i w2.heap.size s.gv _ _ _ _ hrow3 hle (by omega) h3.low hv3 hgl (by simp [Value.oneCell']) (texts_one h3.gath)
  have H3 := hide h3
  obtain ⟨ob, hob⟩ : ∃ ob, s.gv.ownBlock = ob := ⟨_, rfl⟩
  rw [hob, eg] at hins
  have HOB := hide hob
  have hXg : Hid (s.gv.ownBlock ≠ some X) := owns_ne_type h2.gath.row h2.blk (by decide)
  have hX7 : ∀ (u : World), Kp ob.toList (w2.alloc (.cells #[.int .i64 (id : Int), .slice a m c] 50)).drew u → u.heap[X]? = some (.cells (pxC s) 72 (0, 0)) := fun u ku => ku.heap H3.out.blk (fun hx => hXg.out (by rw [HOB.out]; simpa using hx))
  have hX8 : ∀ (u : World), u.heap[X]? = some (.cells (pxC s) 72 (0, 0)) → u.cell? ⟨X, 7, none⟩ = some s.gv ∧ u.frozen? ⟨X, 7, none⟩ = false := fun u hx => by
    constructor
    · simp [World.cell?, hx, pxC, pxA]
    · simp [World.frozen?, hx]
  have HX7 := hide hX7
  have HX8 := hide hX8
  clear hgat h2 hrow h3 hrow3 hv3 hob eg hX7 hX8
  have y7' : ∀ o, (w2.alloc o).cell? ⟨X, 7, none⟩ = some (.slice ag n cg) := fun o => by rw [World.cell?_alloc_past _ _ _ (World.block_lt_of_cell? w2 _ y7)]; exact y7
  have d0' : ∀ o, (w2.alloc o).cell? ⟨w.heap.size, 0, none⟩ = some (.int .i64 (id : Int)) := fun o => by rw [World.cell?_alloc_past _ _ _ (World.block_lt_of_cell? w2 _ d0)]; exact d0
  have d1' : ∀ o, (w2.alloc o).cell? ⟨w.heap.size, 1, none⟩ = some (.slice a m c) := fun o => by rw [World.cell?_alloc_past _ _ _ (World.block_lt_of_cell? w2 _ d1)]; exact d1
  go_wp2_with fail
  go_region_with (go_at_call 150; refine hins.mono ?_; rintro r w5 ⟨v5, rfl, ho5, hb5, k5⟩; have z5 := HX8.out w5 (HX7.out w5 k5); obtain ⟨z6, z7⟩ := z5; obtain ⟨a5, c5, e5, _⟩ := owns_forms ho5; subst e5)
  all_goals
    go_end0
    obtain ⟨W6, hW6⟩ : ∃ W6, w5.setCell ⟨X, 7, none⟩ (.slice a5 (n + 1) c5) = W6 := ⟨_, rfl⟩
    rw [hW6]
    have kX : Kp [X] w5 W6 := by rw [← hW6]; exact kp_set w5 X 7 _
    have hX5 := HX7.out w5 k5
    have hX6 : W6.heap[X]? = some (.cells (pxC { s with gv := .slice a5 (n + 1) c5, G := insAt s.G i (id, ws), gs := insAt s.gs i (.slice a m c) }) 72 (0, 0)) := by
      rw [← hW6, heap_setCell_same w5 X 7 _ 72 _ hX5, pxC_set7]; rfl
    rw [← HOB.out] at k5 hb5
    have k36 : Kp (X :: s.gv.ownBlock.toList) (w2.alloc (.cells #[.int .i64 (id : Int), .slice a m c] 50)).drew W6 := (k5.mono (fun x hx => List.mem_cons_of_mem _ hx)).next (kX.mono (by simp))
    have hS36 : ∀ x ∈ X :: s.gv.ownBlock.toList, x = X ∨ s.gv.ownBlock = some x := fun x hx => by
      rcases List.mem_cons.1 hx with e | e
      · exact .inl e
      · exact .inr (by simpa using e)
    have k03 : Kp [] w (w2.alloc (.cells #[.int .i64 (id : Int), .slice a m c] 50)).drew := (k1.next k2).next k23
    have hz03 := k03.size
    have hz36 := k36.size
    obtain ⟨_, _, _, hk9⟩ := H3.out.restG k36 hS36
    have hm : m = ws.length := by
      obtain ⟨_, _, e, _⟩ := owns_forms HU.out
      cases e; rfl
    have hT6 : TextsIs W6 B (.slice a5 (n + 1) c5) (insAt s.G i (id, ws)) (insAt s.gs i (.slice a m c)) := by
      refine texts_ins H3.out.gath ?_ hk9 (k03.owns HU.out (by simp)) (fun x hx g hg e => hun g hg (H3.out.inW x hx g e))
      rw [HN.out]
      exact kX.owns ho5 (fun gg hgg hx => by
        simp at hx; subst hx
        exact owns_ne_type ho5 hX5 (by decide) hgg)
    have hO6 : ∀ g ∈ O, g ∈ grow O w W6 ++ (Value.slice a m c).ownBlock.toList := fun g hg => List.mem_append.2 (.inl (mem_grow.2 (.inl hg)))
    have hp6 : ((insAt s.G i (id, ws)).map Prod.fst).Perm (id :: s.G.map Prod.fst) := (insA_perm s.G i (id, ws)).map Prod.fst
    refine ⟨rfl, _, H3.out.turnG k36 hS36 hX6 hT6 ?_ HSRT.out ?_ ?_ hO6 ?_ ?_, rfl, ⟨rfl, rfl, rfl, rfl, rfl, rfl, rfl, rfl, rfl, rfl⟩, (k03.mono (by simp)).next (k36.mono fun x hx => by
      rcases hS36 x hx with rfl | e
      · exact H3.out.inX
      · exact H3.out.inG x e)⟩
    · intro t ht
      rcases mem_insA ht with rfl | ht
      · exact ⟨hid, hw.1, hw.2.1, hw.2.2⟩
      · exact H3.out.word t ht
    · rw [insA_len]
      have := abs_len s
      omega
    · refine ((hp6.append_right _).nodup_iff).2 ?_
      rw [List.cons_append, List.nodup_cons]
      refine ⟨?_, H3.out.nodup⟩
      rw [← abs_ids]; exact hno
    · intro g hg
      rcases hb5 with e | e
      · rw [e] at hg
        exact ⟨hO6 g (H3.out.inG g hg), H3.out.outG g hg⟩
      · have hgg : g = (w2.alloc (.cells #[.int .i64 (id : Int), .slice a m c] 50)).drew.heap.size := by
          rw [e] at hg; simpa using hg.symm
        have hlt := (hT6.row.lt g hg).2
        refine ⟨List.mem_append.2 (.inl (mem_grow.2 (.inr ⟨by omega, hlt⟩))), fun t ht => .inr ?_⟩
        have := H3.out.hiLe t ht
        omega
    · intro u hu g hg
      rcases mem_insA hu with rfl | hu
      · exact List.mem_append.2 (.inr (by simp [hg]))
      · exact hO6 g (H3.out.inW u hu g hg)
end Go.Proofs.YtnffagpdnklnkaaGreatDoor.Pak
