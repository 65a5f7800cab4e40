import Derived.Test.YtpdoacfiiledcaaPaF
import Derived.Test.YtpdoacfiiledcaaPakT
namespace Go.Proofs.Ytpdoacfiiledcaa.Pak
open Go.RowKit Go.Proofs.Ytpdoacfiiledcaa SiftM
set_option linter.unusedVariables false

theorem owns_set {w : World} {base g n cap size j : Nat} {e : TypeId} {xs : List Value} (h : w.ownsRow base e size (.slice (some ⟨g, 0, none⟩) n cap) n xs) (hj : j < n * size) (u : Value) : (w.setCell ⟨g, j, none⟩ u).ownsRow base e size (.slice (some ⟨g, 0, none⟩) n cap) n (xs.set j u) := by
  rcases h.2 with ⟨e1, _⟩ | ⟨g', cap', cur, e1, hb, hg, hn, hcm, hcs, ht⟩
  · simp at e1
  · simp at e1
    obtain ⟨rfl, rfl⟩ := e1
    refine ⟨by simpa using h.1, .inr ⟨g, cap, _, rfl, hb, heap_setCell_same w g j cur e u hg, hn, hcm, by simpa using hcs, ?_⟩⟩
    rw [← ht, Array.toList_setIfInBounds, List.take_set]
theorem owns_at {w : World} {base g n cap size j : Nat} {e : TypeId} {xs : List Value} {u : Value} (h : w.ownsRow base e size (.slice (some ⟨g, 0, none⟩) n cap) n xs) (hu : xs[j]? = some u) : w.cell? ⟨g, j, none⟩ = some u ∧ w.frozen? ⟨g, j, none⟩ = false := by
  have hc := h.cells (g := g) rfl j u hu
  have ea : (⟨g, 0, none⟩ : Addr).add j = ⟨g, j, none⟩ := by unfold Addr.add; split <;> simp_all
  rw [ea] at hc
  refine ⟨hc, ?_⟩
  rcases h.2 with ⟨e1, _⟩ | ⟨g', cap', cur, e1, hb, hg, _⟩
  · simp at e1
  · simp at e1
    obtain ⟨rfl, rfl⟩ := e1
    simp [World.frozen?, hg]
theorem tx2_setlast (xs : List (Nat × Value)) (d : Nat) (v0 v1 : Value) : (tx2 (xs ++ [(d, v0)])).set (xs.length * 2 + 1) v1 = tx2 (xs ++ [(d, v1)]) := by
  rw [tx2_snoc, tx2_snoc, List.set_append_right _ _ (by rw [tx2_len]; omega), tx2_len, show xs.length * 2 + 1 - xs.length * 2 = 1 by omega]
  rfl

set_option maxHeartbeats 2000000 in
set_option maxRecDepth 100000 in
theorem spot_old (base d p : Nat) (v : Value) (Q : List Po) (ps : List Nat) (qvs : List Value) (lv : Value) (w : World) (h : PostIs w base v (Q ++ [(d, ps)]) (qvs ++ [lv])) (hn : Q.length ≤ 100000) (hps : ps.length ≤ 100000) (hb : base ≤ w.heap.size) (hd : d ≤ 1000000) (hp : p ≤ 1000000) :
    Calls Try.prog 50 #[v, .agg #[.int .i64 d, .int .i64 p]] w fun e w' => ∃ v' pvs', e = .returned v' ∧ PostIs w' base v' (Q ++ [(d, ps ++ [p])]) pvs' ∧ Kp (foot v (qvs ++ [lv])) w w' ∧ ∀ x ∈ foot v' pvs', x ∈ foot v (qvs ++ [lv]) ∨ w.heap.size ≤ x := by
  obtain ⟨i0, hi, hz0, hz1, hz2⟩ := info_parts info3
  have hql : qvs.length = Q.length := by have := h.len; simpa using this
  have hPl : (Q ++ [(d, ps)]).length = Q.length + 1 := by simp
  obtain ⟨a, cap, e1, ha⟩ := owns_forms h.row
  subst e1
  obtain ⟨g, rfl⟩ := ha (by simp)
  have hi1 : Q.length < (Q ++ [(d, ps)]).length := by simp
  have hi2 : Q.length < (qvs ++ [lv]).length := by simp [hql]
  have hc := h.cells Q.length hi1 hi2
  have he := h.each Q.length hi1 hi2
  have g1 : (Q ++ [(d, ps)])[Q.length] = (d, ps) := by simp
  have g2 : (qvs ++ [lv])[Q.length] = lv := by rw [List.getElem_append_right (by omega)]; simp [hql]
  rw [g1, g2] at hc he
  simp only at hc he
  obtain ⟨al, cl, el, _⟩ := owns_forms he
  subst el
  have hzip : ((Q ++ [(d, ps)]).map Prod.fst).zip (qvs ++ [.slice al ps.length cl]) = (Q.map Prod.fst).zip qvs ++ [(d, .slice al ps.length cl)] := by
    rw [List.map_append, List.zip_append (by simp [hql])]; rfl
  have hzl : ((Q.map Prod.fst).zip qvs).length = Q.length := by simp [hql]
  have hget : (tx2 (((Q ++ [(d, ps)]).map Prod.fst).zip (qvs ++ [.slice al ps.length cl])))[Q.length * 2 + 1]? = some (.slice al ps.length cl) := by
    have := (tx2_get ((Q.map Prod.fst).zip qvs ++ [(d, .slice al ps.length cl)]) Q.length (by simp [hql])).2
    rw [hzip, this, List.getElem_append_right (by rw [hzl]; omega)]
    simp [hzl]
  rw [hPl] at h
  have hrow := h.row
  rw [hPl] at hrow
  obtain ⟨hc0, hc1⟩ := hc
  obtain ⟨W, hW⟩ : ∃ W, w.alloc (.cells #[.int .i64 (d : Int), .int .i64 (p : Int)] 95) = W := ⟨_, rfl⟩
  have kW : Kp [] w W := by rw [← hW]; exact (Kp.refl _ _).alloc _
  have hx : W.heap[w.heap.size]? = some (.cells #[.int .i64 (d : Int), .int .i64 (p : Int)] 95 (0, 0)) := by rw [← hW]; exact heap_alloc_new w _
  have hsW : W.heap.size = w.heap.size + 1 := by rw [← hW]; simp
  obtain ⟨p0, p1, _, _⟩ := rd_cells hx
  have hc0' := kW.cellv hc0 (by simp)
  have hc1' := kW.cellv hc1 (by simp)
  have hrow1 := kW.owns hrow (by simp)
  have he1 := kW.owns he (by simp)
  have HH := hide h
  have HROW := hide hrow1
  have HE := hide he1
  have HX := hide hx
  have HsW := hide hsW
  rw [hPl]
  obtain ⟨n, hnE⟩ : ∃ n, Q.length = n := ⟨_, rfl⟩
  rw [hnE] at hc0' hc1' HROW hn hget ⊢
  have HGET := hide hget
  have HZIP := hide hzip
  have HZL := hide hzl
  clear hget hzip hzl
  have HnE := hide hnE
  have hgl := (hrow.lt g rfl).2
  clear h hrow hrow1 he he1 hx hsW hc0 hc1 g1 g2 hi1 hi2 hPl ha hnE
  have d1 : decide ((n : Int) < 0) = false := by simp
  have i0' : (0 : Int) ≤ (n : Int) := by omega
  have i1' : (n : Int) < ((n + 1 : Nat) : Int) := by omega
  have i2' : (n : Int) < (n : Int) + 1 := by omega
  go_enter Try.func50, Try.ntmps50
  go_wp2_with fail
  clear hW
  go_region
  obtain ⟨W2, hW2⟩ : ∃ W2, W.drew = W2 := ⟨_, rfl⟩
  have kW2 : Kp [] W W2 := by rw [← hW2]; exact (Kp.refl _ _).drewN 1
  have hx2 := kW2.heap HX.out (by simp)
  obtain ⟨r0, r1, _, _⟩ := rd_cells hx2
  have hs2 : W2.heap.size = W.heap.size := by rw [← hW2]; rfl
  have q0 := kW2.cellv hc0' (by simp)
  have q1 := kW2.cellv hc1' (by simp)
  have hrow2 := kW2.owns HROW.out (by simp)
  have he2 := kW2.owns HE.out (by simp)
  have HROW2 := hide hrow2
  have HE2 := hide he2
  have Hs2 := hide hs2
  have kw2 : Kp [] w W2 := kW.next kW2
  rw [hW2]
  have hgne : Hid ((Value.slice al ps.length cl).ownBlock ≠ some g) := by
    intro e
    exact owns_disj he2 hrow2 (by decide) g e rfl
  have hXne : Hid ((Value.slice al ps.length cl).ownBlock ≠ some w.heap.size) := owns_ne he2 hx2 (by decide)
  have hgW2 : g < W2.heap.size := by have h1 := HsW.out; omega
  have hxW2 : w.heap.size < W2.heap.size := by have h1 := HsW.out; omega
  clear hW2 hx2 hrow2 he2 hs2 hc0' hc1' p0 p1
  go_wp2_with fail
  go_region_law
    (refine step_append_lies _ (by rfl) _ _ _ (by rfl) base 3 i0 _ 1 8 Try.underlying22 hi hz0 hz1 hz2 rfl (by omega) (.slice al ps.length cl) ps.length (intV ps) (by rfl) ((HE2.out.alloc _).drew)
        ⟨W2.heap.size, 0, none⟩ 1 1 [.int .i64 (p : Int)] (by rfl) (by rfl) (World.news_of_block (cs := #[.int .i64 (p : Int)]) (t := 3) (fr := (0, 0)) (heap_alloc_new W2 _)) (by simp [Value.oneCell'])
        (by omega) (by unfold maxLen; omega) (by omega) (by have h1 := HsW.out; have h2 := Hs2.out; simp; omega) (W2.heap.size + 1) (by simp) ?_; intro gg cap' w3 hown3 hgrow hat3 hlt3; have hrow3 := (((HROW2.out.alloc _).drew).kept hgrow (.inr (fun e => hgne.out (by rw [← e]; rfl)))); have s0 := (owns_at hrow3 HGET.out).1; have s1 := (owns_at hrow3 HGET.out).2)
  all_goals
    have hr4 := owns_set hrow3 (j := n * 2 + 1) (by omega) (.slice (some ⟨gg, 0, none⟩) (ps.length + 1) cap')
    have hxs : (tx2 (((Q ++ [(d, ps)]).map Prod.fst).zip (qvs ++ [.slice al ps.length cl]))).set (n * 2 + 1) (.slice (some ⟨gg, 0, none⟩) (ps.length + 1) cap') = tx2 ((Q.map Prod.fst).zip qvs ++ [(d, .slice (some ⟨gg, 0, none⟩) (ps.length + 1) cap')]) := by
      have := tx2_setlast ((Q.map Prod.fst).zip qvs) d (.slice al ps.length cl) (.slice (some ⟨gg, 0, none⟩) (ps.length + 1) cap')
      rw [HZL.out, HnE.out] at this
      rw [HZIP.out, this]
    rw [hxs] at hr4
    have ks : Kp [g] w3 (w3.setCell ⟨g, n * 2 + 1, none⟩ (.slice (some ⟨gg, 0, none⟩) (ps.length + 1) cap')) := (Kp.refl _ _).setCell (.inl (by simp)) _
    have kg : Kp (Value.slice al ps.length cl).ownBlock.toList W2 w3 := (((Kp.refl _ W2).alloc _).drewN 1).grown hgrow (fun j hj => .inl (by simp [hj]))
    have hl4 := ks.owns hown3 (fun g' hg' hx => by
      simp at hx; subst hx
      exact owns_disj hown3 hrow3 (by decide) g' hg' rfl)
    have hlast : foot (Value.slice (some ⟨g, 0, none⟩) (n + 1) cap) (qvs ++ [.slice al ps.length cl]) = g :: (qvs.flatMap fun u => u.ownBlock.toList) ++ (Value.slice al ps.length cl).ownBlock.toList := by
      simp [foot, Value.ownBlock]
    have hfin : ∃ v' pvs', Ending.returned (Value.slice (some ⟨g, 0, none⟩) (n + 1) cap) = .returned v' ∧ PostIs (w3.setCell ⟨g, n * 2 + 1, none⟩ (.slice (some ⟨gg, 0, none⟩) (ps.length + 1) cap')) base v' (Q ++ [(d, ps ++ [p])]) pvs' ∧ Kp (foot (Value.slice (some ⟨g, 0, none⟩) (n + 1) cap) (qvs ++ [.slice al ps.length cl])) w (w3.setCell ⟨g, n * 2 + 1, none⟩ (.slice (some ⟨gg, 0, none⟩) (ps.length + 1) cap')) ∧ ∀ x ∈ foot v' pvs', x ∈ foot (Value.slice (some ⟨g, 0, none⟩) (n + 1) cap) (qvs ++ [.slice al ps.length cl]) ∨ w.heap.size ≤ x := by
      refine ⟨_, qvs ++ [.slice (some ⟨gg, 0, none⟩) (ps.length + 1) cap'], rfl, ⟨by simp [hql], ?_, ?_, ?_⟩, ?_, ?_⟩
      · have e1 : (Q ++ [(d, ps ++ [p])]).length = n + 1 := by simp [HnE.out]
        have e2 : ((Q ++ [(d, ps ++ [p])]).map Prod.fst).zip (qvs ++ [.slice (some ⟨gg, 0, none⟩) (ps.length + 1) cap']) = (Q.map Prod.fst).zip qvs ++ [(d, .slice (some ⟨gg, 0, none⟩) (ps.length + 1) cap')] := by
          rw [List.map_append, List.zip_append (by simp [hql])]; rfl
        rw [e1, e2]
        exact hr4
      · intro i h1 h2
        by_cases e : i < Q.length
        · have eq : i < qvs.length := by omega
          rw [List.getElem_append_left eq]
          simp only [List.getElem_append_left e]
          have hoi := HH.out.each i (by simp; omega) (by simp; omega)
          rw [List.getElem_append_left eq] at hoi
          simp only [List.getElem_append_left e] at hoi
          have hap : ∀ g', qvs[i].ownBlock = some g' → (Value.slice al ps.length cl).ownBlock ≠ some g' := by
            intro g' hg'
            have := HH.out.apart i qvs.length (by simp; omega) (by simp) eq g' (by rw [List.getElem_append_left eq]; exact hg')
            rw [List.getElem_append_right (Nat.le_refl _)] at this
            simpa using this
          have h1' := kw2.owns hoi (by simp)
          have h2' := kg.owns h1' (fun g' hg' hx => hap g' hg' (by simpa using hx))
          exact ks.owns h2' (fun g' hg' hx => by
            simp at hx; subst hx
            exact owns_disj h2' hrow3 (by decide) g' hg' rfl)
        · have ei : i = Q.length := by simp at h1; omega
          subst ei
          have e2 : (qvs ++ [Value.slice (some ⟨gg, 0, none⟩) (ps.length + 1) cap'])[Q.length] = .slice (some ⟨gg, 0, none⟩) (ps.length + 1) cap' := by rw [List.getElem_append_right (by omega)]; simp [hql]
          rw [e2]
          simp only [List.getElem_append_right (Nat.le_refl _), Nat.sub_self, List.getElem_cons_zero]
          rw [List.length_append, intV_one]
          exact hl4
      · intro i j hi' hj' hij g' hg'
        by_cases e : j < qvs.length
        · rw [List.getElem_append_left e]
          rw [List.getElem_append_left (by omega)] at hg'
          have := HH.out.apart i j (by simp; omega) (by simp; omega) hij g' (by rw [List.getElem_append_left (by omega)]; exact hg')
          rw [List.getElem_append_left e] at this
          exact this
        · have ej : j = qvs.length := by simp at hj'; omega
          subst ej
          rw [List.getElem_append_left (by omega)] at hg'
          have e2 : (qvs ++ [Value.slice (some ⟨gg, 0, none⟩) (ps.length + 1) cap'])[qvs.length] = .slice (some ⟨gg, 0, none⟩) (ps.length + 1) cap' := by rw [List.getElem_append_right (Nat.le_refl _)]; simp
          rw [e2]
          intro hgg
          simp [Value.ownBlock] at hgg
          subst hgg
          rcases hat3 with e3 | e3
          · have := HH.out.apart i qvs.length (by simp; omega) (by simp) hij gg (by rw [List.getElem_append_left (by omega)]; exact hg')
            rw [List.getElem_append_right (Nat.le_refl _)] at this
            exact this (by simpa using e3)
          · have := (HH.out.foot_lt gg (foot_each (i := i) (by simp; omega) (by rw [List.getElem_append_left (by omega)]; exact hg'))).2
            omega
      · refine ((kw2.mono (by simp)).next (kg.mono ?_)).next (ks.mono ?_)
        · intro x hx; rw [hlast]; simp only [List.mem_append]; exact .inr hx
        · intro x hx; simp at hx; subst hx; rw [hlast]; simp
      · intro x hx
        simp only [foot, List.mem_append, List.mem_flatMap, List.mem_singleton] at hx
        rcases hx with hx | ⟨u, hu | rfl, hx⟩
        · left; rw [hlast]; simp [Value.ownBlock] at hx; subst hx; simp
        · left; rw [hlast]; simp only [List.mem_append, List.mem_cons, List.mem_flatMap]; exact .inl (.inr ⟨u, hu, hx⟩)
        · simp [Value.ownBlock] at hx; subst hx
          rcases hat3 with e3 | e3
          · left; rw [hlast]; simp only [List.mem_append]; right; simp [e3]
          · right; omega
    have HFIN := hide hfin
    clear hfin hr4 hxs hl4 hlast hown3 hgrow hrow3 s0 s1 kg ks q0 q1 r0 r1
    go_wp2_with fail
    go_ret
    exact HFIN.out
end Go.Proofs.Ytpdoacfiiledcaa.Pak
