import Derived.Test.YtpdoacfiiledcaaGreatDoorV04
namespace Go.Proofs.YtpdoacfiiledcaaGreatDoor.Pak
open Go.RowKit Go.Proofs.YtpdoacfiiledcaaGreatDoor Go.Proofs.YtpdoacfiiledcaaGreatDoor.Spl SiftM
set_option linter.unusedVariables false

/-- The rest of withSpot where a posting is put behind. -/
theorem spot_end {w w1 w2 : World} {base d p : Nat} {v v' lv : Value} {P : List Po} {pvs : List Value} (h : PostIs w base v P pvs) (hne : wsF P d p = P ++ [(d, [p])]) (hb : base ≤ w.heap.size) (k1 : Kp [] w w1) (hl : w1.ownsRow w.heap.size 3 1 lv 1 (intV [p]))
    (hrow : w2.ownsRow base 458 2 v' (P.length + 1) (tx2 ((P.map Prod.fst).zip pvs) ++ [.int .i64 (d : Int), lv])) (k2 : Kp v.ownBlock.toList w1 w2) (hloc : v'.ownBlock = v.ownBlock ∨ ∃ g, v'.ownBlock = some g ∧ w.heap.size ≤ g) :
    SpotPost w base v P pvs d p (.returned v') w2 := by
  have h1 := h.kp k1 (by simp)
  have hl' : w1.ownsRow base 3 1 lv [p].length (intV [p]) := by
    refine ⟨hl.1, ?_⟩
    rcases hl.2 with h' | ⟨g', cp, cur, e1, hb', rest⟩
    · exact .inl h'
    · exact .inr ⟨g', cp, cur, e1, by omega, rest⟩
  refine ⟨v', pvs ++ [lv], rfl, ?_, ?_, ?_⟩
  · rw [hne]
    refine h1.snoc hl' ?_ hrow k2
    intro i hi g hg hg2
    have h2 := (hl.lt g hg2).1
    have h3 := (h.foot_lt g (foot_each hi hg)).2
    omega
  · exact (k1.mono (by simp)).next (k2.mono (fun x hx => by simp only [foot, List.mem_append]; exact .inl hx))
  · intro x hx
    simp only [foot, List.mem_append, List.mem_flatMap, List.mem_singleton] at hx
    rcases hx with hx | ⟨u, hu | rfl, hx⟩
    · have hx' : v'.ownBlock = some x := by simpa using hx
      rcases hloc with e | ⟨g, e, hg⟩
      · left; exact foot_row (by rw [← e]; exact hx')
      · right; rw [e] at hx'; simp at hx'; omega
    · left
      simp only [foot, List.mem_append, List.mem_flatMap]
      exact .inr ⟨u, hu, hx⟩
    · right
      exact (hl.lt x (by simpa using hx)).1

set_option maxHeartbeats 2000000 in
set_option maxRecDepth 100000 in
theorem spot_new (base d p : Nat) (v : Value) (P : List Po) (pvs : List Value) (w : World) (h : PostIs w base v P pvs) (hne : wsF P d p = P ++ [(d, [p])]) (hlast : ∀ l, P.getLast? = some l → l.1 ≠ d) (hn : P.length ≤ 100000) (hb : base ≤ w.heap.size) (hd : d ≤ 2000000) (hp : p ≤ 2000000) :
    Calls Tryz.prog 361 #[v, .agg #[.int .i64 d, .int .i64 p]] w (SpotPost w base v P pvs d p) := by
  obtain ⟨i0, hi, hz0, hz1, hz2⟩ := info_parts info103
  obtain ⟨a, cap, rfl, ha⟩ := owns_forms h.row
  obtain ⟨W, hW⟩ : ∃ W, w.alloc (.cells #[.int .i64 (d : Int), .int .i64 (p : Int)] 410) = W := ⟨_, rfl⟩
  have kW : Kp [] w W := by rw [← hW]; exact (Kp.refl _ _).alloc _
  have hx : W.heap[w.heap.size]? = some (.cells #[.int .i64 (d : Int), .int .i64 (p : Int)] 410 (0, 0)) := by rw [← hW]; exact heap_alloc_new w _
  have hsW : W.heap.size = w.heap.size + 1 := by rw [← hW]; simp
  have HsW := hide hsW
  obtain ⟨p0, p1, _, _⟩ := rd_cells hx
  have hrow1 := kW.owns h.row (by simp)
  have HROW := hide hrow1
  have HH := hide h
  have Hne := hide hne
  have HX := hide hx
  clear h hne hx hrow1 hsW
  by_cases h0 : P.length = 0
  case' pos =>
    have hP0 : P = [] := List.eq_nil_of_length_eq_zero h0
    subst hP0
    clear h0 hlast
    go_enter Tryz.func361, Tryz.ntmps361
    go_wp2_with fail
    clear hW
    go_region
  case' neg =>
    have hpl : P.length - 1 < P.length := by omega
    have hpv : P.length - 1 < pvs.length := by rw [HH.out.len]; exact hpl
    obtain ⟨g, rfl⟩ := ha (by omega)
    have hcell := (HH.out.cells (P.length - 1) hpl hpv).1
    have hcell1 := kW.cellv hcell (by simp)
    have hlast' : P[P.length - 1].1 ≠ d := by
      apply hlast
      rw [List.getLast?_eq_getElem?, List.getElem?_eq_getElem hpl]
    obtain ⟨y, hy⟩ : ∃ y, P[P.length - 1].1 = y := ⟨_, rfl⟩
    rw [hy] at hcell1 hlast'
    have d1 : decide ((P.length : Int) - 1 < 0) = false := by simp; omega
    have d2 : ¬ ((P.length : Int) - 1 < 0) := by omega
    have i0' : (0 : Int) ≤ (P.length : Int) - 1 := by omega
    have i1' : (P.length : Int) - 1 < (P.length : Int) := by omega
    have i2' : ((P.length : Int) - 1).toNat = P.length - 1 := by omega
    have i3 : IntKind.i64.wrap ((P.length : Int) - 1) = (P.length : Int) - 1 := IntWalk.i64_in _ ⟨by omega, by omega⟩
    have d3 : ((y : Int) == (d : Int)) = false := by simp; omega
    clear hy hcell hlast
    go_enter Tryz.func361, Tryz.ntmps361
    go_wp2_with fail
    clear hW
    go_region
    clear d1 d2 i0' i1' i2' i3 d3 hcell1
  all_goals
    obtain ⟨W2, hW2⟩ : ∃ W2, W.drew = W2 := ⟨_, rfl⟩
    have kW2 : Kp [] W W2 := by rw [← hW2]; exact (Kp.refl _ _).drewN 1
    have hx2 := kW2.heap HX.out (by simp)
    obtain ⟨r0, r1, _, _⟩ := rd_cells hx2
    have hrow2 := kW2.owns HROW.out (by simp)
    have HROW2 := hide hrow2
    have hs2 : W2.heap.size = W.heap.size := by rw [← hW2]; rfl
    have Hs2 := hide hs2
    have kw2 : Kp [] w W2 := kW.next kW2
    rw [hW2]
    clear hW2 hx2 hrow2 hs2 p0 p1 HROW
    go_wp2_with (first
      | (at_builtin; refine wpList_append_own_at _ rfl _ _ 383 rfl base 458 i0 (.agg #[.int .i64 0, .slice none 0 0]) 2 32 Tryz.underlying383 hi hz0 hz1 hz2 rfl (by decide) _ _ _ rfl ((HROW2.out.alloc _).alloc _) ⟨W2.heap.size + 1, 0, none⟩ 1 1 [.int .i64 (d : Int), .slice (some ⟨W2.heap.size, 0, none⟩) 1 1] rfl rfl (World.news_of_block (cs := #[.int .i64 (d : Int), .slice (some ⟨W2.heap.size, 0, none⟩) 1 1]) (t := 458) (fr := (0, 0)) (by have := heap_alloc_new (W2.alloc (.cells #[.int .i64 (p : Int)] 3)) (.cells #[.int .i64 (d : Int), .slice (some ⟨W2.heap.size, 0, none⟩) 1 1] 458); simpa using this)) ?c2 ?c3 ?c4 ?c5 ?_)
      | fail)
    case c2 => intro u hu; simp at hu; rcases hu with rfl | rfl <;> rfl
    case c3 => unfold maxLen; omega
    case c4 => omega
    case c5 => have h1 := HsW.out; have h2 := Hs2.out; simp; omega
    intro v' w2 hown2 hgrow2 _ hloc
    have k2 : Kp _ (W2.alloc (.cells #[.int .i64 (p : Int)] 3)) w2 := ((Kp.refl _ _).alloc (.cells #[.int .i64 (d : Int), .slice (some ⟨W2.heap.size, 0, none⟩) 1 1] 458)).grown hgrow2 (fun j hj => .inl (by rw [Option.mem_toList]; exact hj))
    have hlit := World.ownsRow_lit (base := w.heap.size) (e := 3) (size := 1) W2 #[.int .i64 (p : Int)] 1 (by have h1 := HsW.out; have h2 := Hs2.out; omega) (by unfold maxLen; omega) rfl
    have hloc2 := hloc.imp_right (fun e => (⟨_, e, by have h1 := HsW.out; have h2 := Hs2.out; simp; omega⟩ : ∃ g, v'.ownBlock = some g ∧ w.heap.size ≤ g))
    have hend := spot_end HH.out Hne.out hb (kw2.alloc _) hlit (by simpa using hown2) k2 hloc2
    have HEND := hide hend
    obtain ⟨a2, c2, rfl, _⟩ := owns_forms hown2
    clear hend hlit hown2 hgrow2 k2 hloc hloc2
    go_wp2_with fail
    go_ret
    exact HEND.out
end Go.Proofs.YtpdoacfiiledcaaGreatDoor.Pak

namespace Go.Proofs.YtpdoacfiiledcaaGreatDoor.Pak
open Go.RowKit Go.Proofs.YtpdoacfiiledcaaGreatDoor Go.Proofs.YtpdoacfiiledcaaGreatDoor.Spl SiftM
set_option linter.unusedVariables false

theorem owns_set {w : World} {base g n cap size j : Nat} {e : TypeId} {xs : List Value} (h : w.ownsRow base e size (.slice (some ⟨g, 0, none⟩) n cap) n xs) (hj : j < n * size) (u : Value) : (w.setCell ⟨g, j, none⟩ u).ownsRow base e size (.slice (some ⟨g, 0, none⟩) n cap) n (xs.set j u) := by
  rcases h.2 with ⟨e1, _⟩ | ⟨g', cap', cur, e1, hb, hg, hn, hcm, hcs, ht⟩
  · simp at e1
  · simp at e1
    obtain ⟨rfl, rfl⟩ := e1
    refine ⟨by simpa using h.1, .inr ⟨g, cap, _, rfl, hb, heap_setCell_same w g j cur e u hg, hn, hcm, by simpa using hcs, ?_⟩⟩
    rw [← ht, Array.toList_setIfInBounds, List.take_set]
theorem owns_at {w : World} {base g n cap size j : Nat} {e : TypeId} {xs : List Value} {u : Value} (h : w.ownsRow base e size (.slice (some ⟨g, 0, none⟩) n cap) n xs) (hu : xs[j]? = some u) : w.cell? ⟨g, j, none⟩ = some u ∧ w.frozen? ⟨g, j, none⟩ = false := by
  have hc := h.cells (g := g) rfl j u hu
  have ea : (⟨g, 0, none⟩ : Addr).add j = ⟨g, j, none⟩ := by unfold Addr.add; split <;> simp_all
  rw [ea] at hc
  refine ⟨hc, ?_⟩
  rcases h.2 with ⟨e1, _⟩ | ⟨g', cap', cur, e1, hb, hg, _⟩
  · simp at e1
  · simp at e1
    obtain ⟨rfl, rfl⟩ := e1
    simp [World.frozen?, hg]
theorem tx2_setlast (xs : List (Nat × Value)) (d : Nat) (v0 v1 : Value) : (tx2 (xs ++ [(d, v0)])).set (xs.length * 2 + 1) v1 = tx2 (xs ++ [(d, v1)]) := by
  rw [tx2_snoc, tx2_snoc, List.set_append_right _ _ (by rw [tx2_len]; omega), tx2_len, show xs.length * 2 + 1 - xs.length * 2 = 1 by omega]
  rfl

set_option maxHeartbeats 2000000 in
set_option maxRecDepth 100000 in
theorem spot_old (base d p : Nat) (v : Value) (Q : List Po) (ps : List Nat) (qvs : List Value) (lv : Value) (w : World) (h : PostIs w base v (Q ++ [(d, ps)]) (qvs ++ [lv])) (hn : Q.length ≤ 100000) (hps : ps.length ≤ 100000) (hb : base ≤ w.heap.size) (hd : d ≤ 2000000) (hp : p ≤ 2000000) :
    Calls Tryz.prog 361 #[v, .agg #[.int .i64 d, .int .i64 p]] w fun e w' => ∃ v' pvs', e = .returned v' ∧ PostIs w' base v' (Q ++ [(d, ps ++ [p])]) pvs' ∧ Kp (foot v (qvs ++ [lv])) w w' ∧ ∀ x ∈ foot v' pvs', x ∈ foot v (qvs ++ [lv]) ∨ w.heap.size ≤ x := by
  obtain ⟨i0, hi, hz0, hz1, hz2⟩ := info_parts info3
  have hql : qvs.length = Q.length := by have := h.len; simpa using this
  have hPl : (Q ++ [(d, ps)]).length = Q.length + 1 := by simp
  obtain ⟨a, cap, e1, ha⟩ := owns_forms h.row
  subst e1
  obtain ⟨g, rfl⟩ := ha (by simp)
  have hi1 : Q.length < (Q ++ [(d, ps)]).length := by simp
  have hi2 : Q.length < (qvs ++ [lv]).length := by simp [hql]
  have hc := h.cells Q.length hi1 hi2
  have he := h.each Q.length hi1 hi2
  have g1 : (Q ++ [(d, ps)])[Q.length] = (d, ps) := by simp
  have g2 : (qvs ++ [lv])[Q.length] = lv := by rw [List.getElem_append_right (by omega)]; simp [hql]
  rw [g1, g2] at hc he
  simp only at hc he
  obtain ⟨al, cl, el, _⟩ := owns_forms he
  subst el
  have hzip : ((Q ++ [(d, ps)]).map Prod.fst).zip (qvs ++ [.slice al ps.length cl]) = (Q.map Prod.fst).zip qvs ++ [(d, .slice al ps.length cl)] := by
    rw [List.map_append, List.zip_append (by simp [hql])]; rfl
  have hzl : ((Q.map Prod.fst).zip qvs).length = Q.length := by simp [hql]
  have hget : (tx2 (((Q ++ [(d, ps)]).map Prod.fst).zip (qvs ++ [.slice al ps.length cl])))[Q.length * 2 + 1]? = some (.slice al ps.length cl) := by
    have := (tx2_get ((Q.map Prod.fst).zip qvs ++ [(d, .slice al ps.length cl)]) Q.length (by simp [hql])).2
    rw [hzip, this, List.getElem_append_right (by rw [hzl]; omega)]
    simp [hzl]
  rw [hPl] at h
  have hrow := h.row
  rw [hPl] at hrow
  obtain ⟨hc0, hc1⟩ := hc
  obtain ⟨W, hW⟩ : ∃ W, w.alloc (.cells #[.int .i64 (d : Int), .int .i64 (p : Int)] 410) = W := ⟨_, rfl⟩
  have kW : Kp [] w W := by rw [← hW]; exact (Kp.refl _ _).alloc _
  have hx : W.heap[w.heap.size]? = some (.cells #[.int .i64 (d : Int), .int .i64 (p : Int)] 410 (0, 0)) := by rw [← hW]; exact heap_alloc_new w _
  have hsW : W.heap.size = w.heap.size + 1 := by rw [← hW]; simp
  obtain ⟨p0, p1, _, _⟩ := rd_cells hx
  have hc0' := kW.cellv hc0 (by simp)
  have hc1' := kW.cellv hc1 (by simp)
  have hrow1 := kW.owns hrow (by simp)
  have he1 := kW.owns he (by simp)
  have HH := hide h
  have HROW := hide hrow1
  have HE := hide he1
  have HX := hide hx
  have HsW := hide hsW
  rw [hPl]
  obtain ⟨n, hnE⟩ : ∃ n, Q.length = n := ⟨_, rfl⟩
  rw [hnE] at hc0' hc1' HROW hn hget ⊢
  have HGET := hide hget
  have HZIP := hide hzip
  have HZL := hide hzl
  clear hget hzip hzl
  have HnE := hide hnE
  have hgl := (hrow.lt g rfl).2
  clear h hrow hrow1 he he1 hx hsW hc0 hc1 g1 g2 hi1 hi2 hPl ha hnE
  have d1 : decide ((n : Int) < 0) = false := by simp
  have i0' : (0 : Int) ≤ (n : Int) := by omega
  have i1' : (n : Int) < ((n + 1 : Nat) : Int) := by omega
  have i2' : (n : Int) < (n : Int) + 1 := by omega
  go_enter Tryz.func361, Tryz.ntmps361
  go_wp2_with fail
  clear hW
  go_region
  obtain ⟨W2, hW2⟩ : ∃ W2, W.drew = W2 := ⟨_, rfl⟩
  have kW2 : Kp [] W W2 := by rw [← hW2]; exact (Kp.refl _ _).drewN 1
  have hx2 := kW2.heap HX.out (by simp)
  obtain ⟨r0, r1, _, _⟩ := rd_cells hx2
  have hs2 : W2.heap.size = W.heap.size := by rw [← hW2]; rfl
  have q0 := kW2.cellv hc0' (by simp)
  have q1 := kW2.cellv hc1' (by simp)
  have hrow2 := kW2.owns HROW.out (by simp)
  have he2 := kW2.owns HE.out (by simp)
  have HROW2 := hide hrow2
  have HE2 := hide he2
  have Hs2 := hide hs2
  have kw2 : Kp [] w W2 := kW.next kW2
  rw [hW2]
  have hgne : Hid ((Value.slice al ps.length cl).ownBlock ≠ some g) := by
    intro e
    exact owns_disj he2 hrow2 (by decide) g e rfl
  have hXne : Hid ((Value.slice al ps.length cl).ownBlock ≠ some w.heap.size) := owns_ne he2 hx2 (by decide)
  have hgW2 : g < W2.heap.size := by have h1 := HsW.out; omega
  have hxW2 : w.heap.size < W2.heap.size := by have h1 := HsW.out; omega
  clear hW2 hx2 hrow2 he2 hs2 hc0' hc1' p0 p1
  go_wp2_with fail
  go_region_law
    (refine step_append_lies _ (by rfl) _ _ _ (by rfl) base 3 i0 _ 1 8 Tryz.underlying24 hi hz0 hz1 hz2 rfl (by omega) (.slice al ps.length cl) ps.length (intV ps) (by rfl) ((HE2.out.alloc _).drew)
        ⟨W2.heap.size, 0, none⟩ 1 1 [.int .i64 (p : Int)] (by rfl) (by rfl) (World.news_of_block (cs := #[.int .i64 (p : Int)]) (t := 3) (fr := (0, 0)) (heap_alloc_new W2 _)) (by simp [Value.oneCell'])
        (by omega) (by unfold maxLen; omega) (by omega) (by have h1 := HsW.out; have h2 := Hs2.out; simp; omega) (W2.heap.size + 1) (by simp) ?_; intro gg cap' w3 hown3 hgrow hat3 hlt3; have hrow3 := (((HROW2.out.alloc _).drew).kept hgrow (.inr (fun e => hgne.out (by rw [← e]; rfl)))); have s0 := (owns_at hrow3 HGET.out).1; have s1 := (owns_at hrow3 HGET.out).2)
  all_goals
    have hr4 := owns_set hrow3 (j := n * 2 + 1) (by omega) (.slice (some ⟨gg, 0, none⟩) (ps.length + 1) cap')
    have hxs : (tx2 (((Q ++ [(d, ps)]).map Prod.fst).zip (qvs ++ [.slice al ps.length cl]))).set (n * 2 + 1) (.slice (some ⟨gg, 0, none⟩) (ps.length + 1) cap') = tx2 ((Q.map Prod.fst).zip qvs ++ [(d, .slice (some ⟨gg, 0, none⟩) (ps.length + 1) cap')]) := by
      have := tx2_setlast ((Q.map Prod.fst).zip qvs) d (.slice al ps.length cl) (.slice (some ⟨gg, 0, none⟩) (ps.length + 1) cap')
      rw [HZL.out, HnE.out] at this
      rw [HZIP.out, this]
    rw [hxs] at hr4
    have ks : Kp [g] w3 (w3.setCell ⟨g, n * 2 + 1, none⟩ (.slice (some ⟨gg, 0, none⟩) (ps.length + 1) cap')) := (Kp.refl _ _).setCell (.inl (by simp)) _
    have kg : Kp (Value.slice al ps.length cl).ownBlock.toList W2 w3 := (((Kp.refl _ W2).alloc _).drewN 1).grown hgrow (fun j hj => .inl (by simp [hj]))
    have hl4 := ks.owns hown3 (fun g' hg' hx => by
      simp at hx; subst hx
      exact owns_disj hown3 hrow3 (by decide) g' hg' rfl)
    have hlast : foot (Value.slice (some ⟨g, 0, none⟩) (n + 1) cap) (qvs ++ [.slice al ps.length cl]) = g :: (qvs.flatMap fun u => u.ownBlock.toList) ++ (Value.slice al ps.length cl).ownBlock.toList := by
      simp [foot, Value.ownBlock]
    have hfin : ∃ v' pvs', Ending.returned (Value.slice (some ⟨g, 0, none⟩) (n + 1) cap) = .returned v' ∧ PostIs (w3.setCell ⟨g, n * 2 + 1, none⟩ (.slice (some ⟨gg, 0, none⟩) (ps.length + 1) cap')) base v' (Q ++ [(d, ps ++ [p])]) pvs' ∧ Kp (foot (Value.slice (some ⟨g, 0, none⟩) (n + 1) cap) (qvs ++ [.slice al ps.length cl])) w (w3.setCell ⟨g, n * 2 + 1, none⟩ (.slice (some ⟨gg, 0, none⟩) (ps.length + 1) cap')) ∧ ∀ x ∈ foot v' pvs', x ∈ foot (Value.slice (some ⟨g, 0, none⟩) (n + 1) cap) (qvs ++ [.slice al ps.length cl]) ∨ w.heap.size ≤ x := by
      refine ⟨_, qvs ++ [.slice (some ⟨gg, 0, none⟩) (ps.length + 1) cap'], rfl, ⟨by simp [hql], ?_, ?_, ?_⟩, ?_, ?_⟩
      · have e1 : (Q ++ [(d, ps ++ [p])]).length = n + 1 := by simp [HnE.out]
        have e2 : ((Q ++ [(d, ps ++ [p])]).map Prod.fst).zip (qvs ++ [.slice (some ⟨gg, 0, none⟩) (ps.length + 1) cap']) = (Q.map Prod.fst).zip qvs ++ [(d, .slice (some ⟨gg, 0, none⟩) (ps.length + 1) cap')] := by
          rw [List.map_append, List.zip_append (by simp [hql])]; rfl
        rw [e1, e2]
        exact hr4
      · intro i h1 h2
        by_cases e : i < Q.length
        · have eq : i < qvs.length := by omega
          rw [List.getElem_append_left eq]
          simp only [List.getElem_append_left e]
          have hoi := HH.out.each i (by simp; omega) (by simp; omega)
          rw [List.getElem_append_left eq] at hoi
          simp only [List.getElem_append_left e] at hoi
          have hap : ∀ g', qvs[i].ownBlock = some g' → (Value.slice al ps.length cl).ownBlock ≠ some g' := by
            intro g' hg'
            have := HH.out.apart i qvs.length (by simp; omega) (by simp) eq g' (by rw [List.getElem_append_left eq]; exact hg')
            rw [List.getElem_append_right (Nat.le_refl _)] at this
            simpa using this
          have h1' := kw2.owns hoi (by simp)
          have h2' := kg.owns h1' (fun g' hg' hx => hap g' hg' (by simpa using hx))
          exact ks.owns h2' (fun g' hg' hx => by
            simp at hx; subst hx
            exact owns_disj h2' hrow3 (by decide) g' hg' rfl)
        · have ei : i = Q.length := by simp at h1; omega
          subst ei
          have e2 : (qvs ++ [Value.slice (some ⟨gg, 0, none⟩) (ps.length + 1) cap'])[Q.length] = .slice (some ⟨gg, 0, none⟩) (ps.length + 1) cap' := by rw [List.getElem_append_right (by omega)]; simp [hql]
          rw [e2]
          simp only [List.getElem_append_right (Nat.le_refl _), Nat.sub_self, List.getElem_cons_zero]
          rw [List.length_append, intV_one]
          exact hl4
      · intro i j hi' hj' hij g' hg'
        by_cases e : j < qvs.length
        · rw [List.getElem_append_left e]
          rw [List.getElem_append_left (by omega)] at hg'
          have := HH.out.apart i j (by simp; omega) (by simp; omega) hij g' (by rw [List.getElem_append_left (by omega)]; exact hg')
          rw [List.getElem_append_left e] at this
          exact this
        · have ej : j = qvs.length := by simp at hj'; omega
          subst ej
          rw [List.getElem_append_left (by omega)] at hg'
          have e2 : (qvs ++ [Value.slice (some ⟨gg, 0, none⟩) (ps.length + 1) cap'])[qvs.length] = .slice (some ⟨gg, 0, none⟩) (ps.length + 1) cap' := by rw [List.getElem_append_right (Nat.le_refl _)]; simp
          rw [e2]
          intro hgg
          simp [Value.ownBlock] at hgg
          subst hgg
          rcases hat3 with e3 | e3
          · have := HH.out.apart i qvs.length (by simp; omega) (by simp) hij gg (by rw [List.getElem_append_left (by omega)]; exact hg')
            rw [List.getElem_append_right (Nat.le_refl _)] at this
            exact this (by simpa using e3)
          · have := (HH.out.foot_lt gg (foot_each (i := i) (by simp; omega) (by rw [List.getElem_append_left (by omega)]; exact hg'))).2
            omega
      · refine ((kw2.mono (by simp)).next (kg.mono ?_)).next (ks.mono ?_)
        · intro x hx; rw [hlast]; simp only [List.mem_append]; exact .inr hx
        · intro x hx; simp at hx; subst hx; rw [hlast]; simp
      · intro x hx
        simp only [foot, List.mem_append, List.mem_flatMap, List.mem_singleton] at hx
        rcases hx with hx | ⟨u, hu | rfl, hx⟩
        · left; rw [hlast]; simp [Value.ownBlock] at hx; subst hx; simp
        · left; rw [hlast]; simp only [List.mem_append, List.mem_cons, List.mem_flatMap]; exact .inl (.inr ⟨u, hu, hx⟩)
        · simp [Value.ownBlock] at hx; subst hx
          rcases hat3 with e3 | e3
          · left; rw [hlast]; simp only [List.mem_append]; right; simp [e3]
          · right; omega
    have HFIN := hide hfin
    clear hfin hr4 hxs hl4 hlast hown3 hgrow hrow3 s0 s1 kg ks q0 q1 r0 r1
    go_wp2_with fail
    go_ret
    exact HFIN.out
end Go.Proofs.YtpdoacfiiledcaaGreatDoor.Pak

namespace Go.Proofs.YtpdoacfiiledcaaGreatDoor.Pak
open Go.RowKit Go.Proofs.YtpdoacfiiledcaaGreatDoor Go.Proofs.YtpdoacfiiledcaaGreatDoor.Spl SiftM
set_option linter.unusedVariables false

theorem spot_any (base d p : Nat) (v : Value) (P : List Po) (pvs : List Value) (w : World) (h : PostIs w base v P pvs) (hn : P.length ≤ 100000) (hps : ∀ l ∈ P, l.2.length ≤ 100000) (hb : base ≤ w.heap.size) (hd : d ≤ 2000000) (hp : p ≤ 2000000) :
    Calls Tryz.prog 361 #[v, .agg #[.int .i64 d, .int .i64 p]] w (SpotPost w base v P pvs d p) := by
  cases hg : P.getLast? with
  | none =>
    have hP : P = [] := by simpa using hg
    refine spot_new base d p v P pvs w h (by simp [wsF, hP]) (fun l hl => by rw [hg] at hl; simp at hl) hn hb hd hp
  | some l =>
    by_cases e : l.1 = d
    · have hne : P ≠ [] := by intro e; subst e; simp at hg
      have hP : P = P.dropLast ++ [l] := by
        have h1 := List.dropLast_concat_getLast hne
        rw [List.getLast?_eq_some_getLast hne] at hg
        simp at hg
        rw [hg] at h1
        exact h1.symm
      have hpne : pvs ≠ [] := by
        intro e; have := h.len; rw [e] at this; simp at this
        exact hne (List.eq_nil_of_length_eq_zero this.symm)
      have hpv := (List.dropLast_concat_getLast hpne).symm
      have hw : wsF P d p = P.dropLast ++ [(d, l.2 ++ [p])] := by simp [wsF, hg, e]
      have hl : l = (d, l.2) := by rw [← e]
      have hmem : l ∈ P := by rw [hP]; simp
      have hlen := congrArg List.length hP
      simp at hlen
      have := spot_old base d p v P.dropLast l.2 pvs.dropLast (pvs.getLast hpne) w (by rw [← hl, ← hP, ← hpv]; exact h) (by simp; omega) (hps l hmem) hb hd hp
      rw [← hpv] at this
      unfold SpotPost
      rw [hw]
      exact this
    · exact spot_new base d p v P pvs w h (by simp [wsF, hg, e]) (fun l' hl' => by rw [hg] at hl'; simp at hl'; subst hl'; exact e) hn hb hd hp

def upd {α : Type} (F : Nat → α) (t : Nat) (x : α) : Nat → α := fun t' => if t' = t then x else F t'
/-- The lists of postings, term by term. -/
structure ListsIs (w : World) (base Lb nt : Nat) (vF : Nat → Value) (PF : Nat → List Po) (pF : Nat → List Value) : Prop where
  blk : w.heap[Lb]? = some (.cells ((List.range nt).map vF).toArray 383 (0, 0))
  each : ∀ t, t < nt → PostIs w base (vF t) (PF t) (pF t)
  disj : ∀ t t', t < nt → t' < nt → t ≠ t' → ∀ x ∈ foot (vF t) (pF t), x ∉ foot (vF t') (pF t')
/-- What k places of a row of doc d add. -/
def PFr (F : Nat → List Po) (d : Nat) (r : List Nat) : Nat → Nat → List Po
  | 0 => F
  | k + 1 => upd (PFr F d r k) (r.getD k 0) (wsF (PFr F d r k (r.getD k 0)) d k)
def PFd (rows : List (List Nat)) : Nat → Nat → List Po
  | 0 => fun _ => []
  | d + 1 => PFr (PFd rows d) d (rows.getD d []) (rows.getD d []).length

theorem foot_ne {w : World} {base R : Nat} {v : Value} {P : List Po} {pvs : List Value} {cs : Array Value} {t : TypeId} {fr : Nat × Nat} (h : PostIs w base v P pvs) (hR : w.heap[R]? = some (.cells cs t fr)) (h1 : t ≠ 458) (h2 : t ≠ 3) : R ∉ foot v pvs := by
  intro hx
  simp only [foot, List.mem_append, List.mem_flatMap] at hx
  rcases hx with hx | ⟨u, hu, hx⟩
  · exact owns_ne h.row hR h1 (by simpa using hx)
  · obtain ⟨i, hi, rfl⟩ := List.getElem_of_mem hu
    exact owns_ne (h.each i (by rw [← h.len]; exact hi) hi) hR h2 (by simpa using hx)
theorem ListsIs.kp {S : List Nat} {w w' : World} {base Lb nt : Nat} {vF : Nat → Value} {PF : Nat → List Po} {pF : Nat → List Value} (h : ListsIs w base Lb nt vF PF pF) (k : Kp S w w') (hL : Lb ∉ S) (hS : ∀ t, t < nt → ∀ x ∈ S, x ∉ foot (vF t) (pF t)) : ListsIs w' base Lb nt vF PF pF :=
  ⟨k.heap h.blk hL, fun t ht => (h.each t ht).kp k (hS t ht), h.disj⟩

/-- The lists behind a spot of term t. -/
theorem ListsIs.spot {w w1 : World} {base Lb nt t : Nat} {vF : Nat → Value} {PF : Nat → List Po} {pF : Nat → List Value} {v' : Value} {P' : List Po} {pvs' : List Value} (h : ListsIs w base Lb nt vF PF pF) (ht : t < nt) (hp : PostIs w1 base v' P' pvs') (k : Kp (foot (vF t) (pF t)) w w1) (hf : ∀ x ∈ foot v' pvs', x ∈ foot (vF t) (pF t) ∨ w.heap.size ≤ x) :
    ListsIs (w1.setCell ⟨Lb, t, none⟩ v') base Lb nt (upd vF t v') (upd PF t P') (upd pF t pvs') := by
  have hLf : Lb ∉ foot (vF t) (pF t) := foot_ne (h.each t ht) h.blk (by decide) (by decide)
  have hb1 := k.heap h.blk hLf
  have ks : Kp [Lb] w1 (w1.setCell ⟨Lb, t, none⟩ v') := (Kp.refl _ _).setCell (.inl (by simp)) _
  have heach : ∀ t', t' < nt → PostIs w1 base (upd vF t v' t') (upd PF t P' t') (upd pF t pvs' t') := by
    intro t' ht'
    unfold upd
    by_cases e : t' = t
    · simp only [e, if_true]; exact hp
    · simp only [e, if_false]
      exact (h.each t' ht').kp k (h.disj t t' ht ht' (Ne.symm e))
  refine ⟨?_, ?_, ?_⟩
  · rw [heap_setCell_same w1 Lb t _ 383 v' hb1]
    congr 2
    rw [List.setIfInBounds_toArray]
    congr 1
    apply List.ext_getElem?
    intro i
    rw [List.getElem?_set]
    by_cases e : t = i
    · subst e
      simp [ht, upd]
    · rw [if_neg e]
      simp only [List.getElem?_map]
      by_cases hi : i < nt
      · simp [hi, upd, Ne.symm e]
      · simp [hi]
  · intro t' ht'
    refine (heach t' ht').kp ks (fun x hx => ?_)
    simp at hx; subst hx
    exact foot_ne (heach t' ht') hb1 (by decide) (by decide)
  · intro a b ha hb hab x hx
    unfold upd at hx ⊢
    by_cases ea : a = t
    · subst ea
      simp only [if_true] at hx
      simp only [Ne.symm hab, if_false]
      rcases hf x hx with h1 | h1
      · exact h.disj a b ha hb hab x h1
      · intro h2
        have := ((h.each b hb).foot_lt x h2).2
        omega
    · simp only [ea, if_false] at hx
      by_cases eb : b = t
      · subst eb
        simp only [if_true]
        intro h2
        rcases hf x h2 with h1 | h1
        · exact h.disj a b ha hb hab x hx h1
        · have := ((h.each a ha).foot_lt x hx).2
          omega
      · simp only [eb, if_false]
        exact h.disj a b ha hb hab x hx
end Go.Proofs.YtpdoacfiiledcaaGreatDoor.Pak

