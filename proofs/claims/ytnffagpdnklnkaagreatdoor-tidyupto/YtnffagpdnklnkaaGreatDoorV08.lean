import Derived.Test.YtnffagpdnklnkaaGreatDoorV07
import Derived.Test.YtnffagpdnklnkaaGreatDoorV06
set_option linter.unusedVariables false
set_option linter.unusedSimpArgs false
set_option maxRecDepth 8000
namespace Go.Proofs.YtnffagpdnklnkaaGreatDoor.Pak
open Go.RowKit Go.Proofs.YtnffagpdnklnkaaGreatDoor Go.Proofs.YtnffagpdnklnkaaGreatDoor.Spl SiftM
theorem owns_set {w : World} {base g n cap size j : Nat} {e : TypeId} {xs : List Value} (h : w.ownsRow base e size (.slice (some ⟨g, 0, none⟩) n cap) n xs) (hj : j < n * size) (u : Value) : (w.setCell ⟨g, j, none⟩ u).ownsRow base e size (.slice (some ⟨g, 0, none⟩) n cap) n (xs.set j u) := by
  rcases h.2 with ⟨e1, _⟩ | ⟨g', cap', cur, e1, hb, hg, hn, hcm, hcs, ht⟩
  · simp at e1
  · simp at e1
    obtain ⟨rfl, rfl⟩ := e1
    refine ⟨by simpa using h.1, .inr ⟨g, cap, _, rfl, hb, heap_setCell_same w g j cur e u hg, hn, hcm, by simpa using hcs, ?_⟩⟩
    rw [← ht, Array.toList_setIfInBounds, List.take_set]
theorem owns_at {w : World} {base g n cap size j : Nat} {e : TypeId} {xs : List Value} {u : Value} (h : w.ownsRow base e size (.slice (some ⟨g, 0, none⟩) n cap) n xs) (hu : xs[j]? = some u) : w.cell? ⟨g, j, none⟩ = some u ∧ w.frozen? ⟨g, j, none⟩ = false := by
  have hc := h.cells (g := g) rfl j u hu
  have ea : (⟨g, 0, none⟩ : Addr).add j = ⟨g, j, none⟩ := by unfold Addr.add; split <;> simp_all
  rw [ea] at hc
  refine ⟨hc, ?_⟩
  rcases h.2 with ⟨e1, _⟩ | ⟨g', cap', cur, e1, hb, hg, _⟩
  · simp at e1
  · simp at e1
    obtain ⟨rfl, rfl⟩ := e1
    simp [World.frozen?, hg]
theorem tx2_setlast (xs : List (Nat × Value)) (d : Nat) (v0 v1 : Value) : (tx2 (xs ++ [(d, v0)])).set (xs.length * 2 + 1) v1 = tx2 (xs ++ [(d, v1)]) := by
  rw [tx2_snoc, tx2_snoc, List.set_append_right _ _ (by rw [tx2_len]; omega), tx2_len, show xs.length * 2 + 1 - xs.length * 2 = 1 by omega]
  rfl

set_option maxHeartbeats 2000000 in
set_option maxRecDepth 100000 in
theorem spot_old (base d p : Nat) (v : Value) (Q : List Po) (ps : List Nat) (qvs : List Value) (lv : Value) (w : World) (h : PostIs w base v (Q ++ [(d, ps)]) (qvs ++ [lv])) (hn : Q.length ≤ 100000) (hps : ps.length ≤ 100000) (hb : base ≤ w.heap.size) (hd : d ≤ 2000000) (hp : p ≤ 2000000) :
    Calls Tryz.prog 168 #[v, .agg #[.int .i64 d, .int .i64 p]] w fun e w' => ∃ v' pvs', e = .returned v' ∧ PostIs w' base v' (Q ++ [(d, ps ++ [p])]) pvs' ∧ Kp (foot v (qvs ++ [lv])) w w' ∧ ∀ x ∈ foot v' pvs', x ∈ foot v (qvs ++ [lv]) ∨ w.heap.size ≤ x := by
  obtain ⟨i0, hi, hz0, hz1, hz2⟩ := info_parts info3
  have hql : qvs.length = Q.length := by have := h.len; simpa using this
  have hPl : (Q ++ [(d, ps)]).length = Q.length + 1 := by simp
  obtain ⟨a, cap, e1, ha⟩ := owns_forms h.row
  subst e1
  obtain ⟨g, rfl⟩ := ha (by simp)
  have hi1 : Q.length < (Q ++ [(d, ps)]).length := by simp
  have hi2 : Q.length < (qvs ++ [lv]).length := by simp [hql]
  have hc := h.cells Q.length hi1 hi2
  have he := h.each Q.length hi1 hi2
  have g1 : (Q ++ [(d, ps)])[Q.length] = (d, ps) := by simp
  have g2 : (qvs ++ [lv])[Q.length] = lv := by rw [List.getElem_append_right (by omega)]; simp [hql]
  rw [g1, g2] at hc he
  simp only at hc he
  obtain ⟨al, cl, el, _⟩ := owns_forms he
  subst el
  have hzip : ((Q ++ [(d, ps)]).map Prod.fst).zip (qvs ++ [.slice al ps.length cl]) = (Q.map Prod.fst).zip qvs ++ [(d, .slice al ps.length cl)] := by
    rw [List.map_append, List.zip_append (by simp [hql])]; rfl
  have hzl : ((Q.map Prod.fst).zip qvs).length = Q.length := by simp [hql]
  have hget : (tx2 (((Q ++ [(d, ps)]).map Prod.fst).zip (qvs ++ [.slice al ps.length cl])))[Q.length * 2 + 1]? = some (.slice al ps.length cl) := by
    have := (tx2_get ((Q.map Prod.fst).zip qvs ++ [(d, .slice al ps.length cl)]) Q.length (by simp [hql])).2
    rw [hzip, this, List.getElem_append_right (by rw [hzl]; omega)]
    simp [hzl]
  rw [hPl] at h
  have hrow := h.row
  rw [hPl] at hrow
  obtain ⟨hc0, hc1⟩ := hc
  obtain ⟨W, hW⟩ : ∃ W, w.alloc (.cells #[.int .i64 (d : Int), .int .i64 (p : Int)] 234) = W := ⟨_, rfl⟩
  have kW : Kp [] w W := by rw [← hW]; exact (Kp.refl _ _).alloc _
  have hx : W.heap[w.heap.size]? = some (.cells #[.int .i64 (d : Int), .int .i64 (p : Int)] 234 (0, 0)) := by rw [← hW]; exact heap_alloc_new w _
  have hsW : W.heap.size = w.heap.size + 1 := by rw [← hW]; simp
  obtain ⟨p0, p1, _, _⟩ := rd_cells hx
  have hc0' := kW.cellv hc0 (by simp)
  have hc1' := kW.cellv hc1 (by simp)
  have hrow1 := kW.owns hrow (by simp)
  have he1 := kW.owns he (by simp)
  have HH := hide h
  have HROW := hide hrow1
  have HE := hide he1
  have HX := hide hx
  have HsW := hide hsW
  rw [hPl]
  obtain ⟨n, hnE⟩ : ∃ n, Q.length = n := ⟨_, rfl⟩
  rw [hnE] at hc0' hc1' HROW hn hget ⊢
  have HGET := hide hget
  have HZIP := hide hzip
  have HZL := hide hzl
  clear hget hzip hzl
  have HnE := hide hnE
  have hgl := (hrow.lt g rfl).2
  clear h hrow hrow1 he he1 hx hsW hc0 hc1 g1 g2 hi1 hi2 hPl ha hnE
  have d1 : decide ((n : Int) < 0) = false := by simp
  have i0' : (0 : Int) ≤ (n : Int) := by omega
  have i1' : (n : Int) < ((n + 1 : Nat) : Int) := by omega
  have i2' : (n : Int) < (n : Int) + 1 := by omega
  go_enter Tryz.func168, Tryz.ntmps168
  go_wp2_with fail
  clear hW
  go_region
  obtain ⟨W2, hW2⟩ : ∃ W2, W.drew = W2 := ⟨_, rfl⟩
  have kW2 : Kp [] W W2 := by rw [← hW2]; exact (Kp.refl _ _).drewN 1
  have hx2 := kW2.heap HX.out (by simp)
  obtain ⟨r0, r1, _, _⟩ := rd_cells hx2
  have hs2 : W2.heap.size = W.heap.size := by rw [← hW2]; rfl
  have q0 := kW2.cellv hc0' (by simp)
  have q1 := kW2.cellv hc1' (by simp)
  have hrow2 := kW2.owns HROW.out (by simp)
  have he2 := kW2.owns HE.out (by simp)
  have HROW2 := hide hrow2
  have HE2 := hide he2
  have Hs2 := hide hs2
  have kw2 : Kp [] w W2 := kW.next kW2
  rw [hW2]
  have hgne : Hid ((Value.slice al ps.length cl).ownBlock ≠ some g) := by
    intro e
    exact owns_disj he2 hrow2 (by decide) g e rfl
  have hXne : Hid ((Value.slice al ps.length cl).ownBlock ≠ some w.heap.size) := owns_ne he2 hx2 (by decide)
  have hgW2 : g < W2.heap.size := by have h1 := HsW.out; omega
  have hxW2 : w.heap.size < W2.heap.size := by have h1 := HsW.out; omega
  clear hW2 hx2 hrow2 he2 hs2 hc0' hc1' p0 p1
  go_wp2_with fail
  go_region_law
    (refine step_append_lies _ (by rfl) _ _ _ (by rfl) base 3 i0 _ 1 8 Tryz.underlying59 hi hz0 hz1 hz2 rfl (by omega) (.slice al ps.length cl) ps.length (intV ps) (by rfl) ((HE2.out.alloc _).drew)
        ⟨W2.heap.size, 0, none⟩ 1 1 [.int .i64 (p : Int)] (by rfl) (by rfl) (World.news_of_block (cs := #[.int .i64 (p : Int)]) (t := 3) (fr := (0, 0)) (heap_alloc_new W2 _)) (by simp [Value.oneCell'])
        (by omega) (by unfold maxLen; omega) (by omega) (by have h1 := HsW.out; have h2 := Hs2.out; simp; omega) (W2.heap.size + 1) (by simp) ?_; intro gg cap' w3 hown3 hgrow hat3 hlt3; have hrow3 := (((HROW2.out.alloc _).drew).kept hgrow (.inr (fun e => hgne.out (by rw [← e]; rfl)))); have s0 := (owns_at hrow3 HGET.out).1; have s1 := (owns_at hrow3 HGET.out).2)
  all_goals
    have hr4 := owns_set hrow3 (j := n * 2 + 1) (by omega) (.slice (some ⟨gg, 0, none⟩) (ps.length + 1) cap')
    have hxs : (tx2 (((Q ++ [(d, ps)]).map Prod.fst).zip (qvs ++ [.slice al ps.length cl]))).set (n * 2 + 1) (.slice (some ⟨gg, 0, none⟩) (ps.length + 1) cap') = tx2 ((Q.map Prod.fst).zip qvs ++ [(d, .slice (some ⟨gg, 0, none⟩) (ps.length + 1) cap')]) := by
      have := tx2_setlast ((Q.map Prod.fst).zip qvs) d (.slice al ps.length cl) (.slice (some ⟨gg, 0, none⟩) (ps.length + 1) cap')
      rw [HZL.out, HnE.out] at this
      rw [HZIP.out, this]
    rw [hxs] at hr4
    have ks : Kp [g] w3 (w3.setCell ⟨g, n * 2 + 1, none⟩ (.slice (some ⟨gg, 0, none⟩) (ps.length + 1) cap')) := (Kp.refl _ _).setCell (.inl (by simp)) _
    have kg : Kp (Value.slice al ps.length cl).ownBlock.toList W2 w3 := (((Kp.refl _ W2).alloc _).drewN 1).grown hgrow (fun j hj => .inl (by simp [hj]))
    have hl4 := ks.owns hown3 (fun g' hg' hx => by
      simp at hx; subst hx
      exact owns_disj hown3 hrow3 (by decide) g' hg' rfl)
    have hlast : foot (Value.slice (some ⟨g, 0, none⟩) (n + 1) cap) (qvs ++ [.slice al ps.length cl]) = g :: (qvs.flatMap fun u => u.ownBlock.toList) ++ (Value.slice al ps.length cl).ownBlock.toList := by
      simp [foot, Value.ownBlock]
    have hfin : ∃ v' pvs', Ending.returned (Value.slice (some ⟨g, 0, none⟩) (n + 1) cap) = .returned v' ∧ PostIs (w3.setCell ⟨g, n * 2 + 1, none⟩ (.slice (some ⟨gg, 0, none⟩) (ps.length + 1) cap')) base v' (Q ++ [(d, ps ++ [p])]) pvs' ∧ Kp (foot (Value.slice (some ⟨g, 0, none⟩) (n + 1) cap) (qvs ++ [.slice al ps.length cl])) w (w3.setCell ⟨g, n * 2 + 1, none⟩ (.slice (some ⟨gg, 0, none⟩) (ps.length + 1) cap')) ∧ ∀ x ∈ foot v' pvs', x ∈ foot (Value.slice (some ⟨g, 0, none⟩) (n + 1) cap) (qvs ++ [.slice al ps.length cl]) ∨ w.heap.size ≤ x := by
      refine ⟨_, qvs ++ [.slice (some ⟨gg, 0, none⟩) (ps.length + 1) cap'], rfl, ⟨by simp [hql], ?_, ?_, ?_⟩, ?_, ?_⟩
      · have e1 : (Q ++ [(d, ps ++ [p])]).length = n + 1 := by simp [HnE.out]
        have e2 : ((Q ++ [(d, ps ++ [p])]).map Prod.fst).zip (qvs ++ [.slice (some ⟨gg, 0, none⟩) (ps.length + 1) cap']) = (Q.map Prod.fst).zip qvs ++ [(d, .slice (some ⟨gg, 0, none⟩) (ps.length + 1) cap')] := by
          rw [List.map_append, List.zip_append (by simp [hql])]; rfl
        rw [e1, e2]
        exact hr4
      · intro i h1 h2
        by_cases e : i < Q.length
        · have eq : i < qvs.length := by omega
          rw [List.getElem_append_left eq]
          simp only [List.getElem_append_left e]
          have hoi := HH.out.each i (by simp; omega) (by simp; omega)
          rw [List.getElem_append_left eq] at hoi
          simp only [List.getElem_append_left e] at hoi
          have hap : ∀ g', qvs[i].ownBlock = some g' → (Value.slice al ps.length cl).ownBlock ≠ some g' := by
            intro g' hg'
            have := HH.out.apart i qvs.length (by simp; omega) (by simp) eq g' (by rw [List.getElem_append_left eq]; exact hg')
            rw [List.getElem_append_right (Nat.le_refl _)] at this
            simpa using this
          have h1' := kw2.owns hoi (by simp)
          have h2' := kg.owns h1' (fun g' hg' hx => hap g' hg' (by simpa using hx))
          exact ks.owns h2' (fun g' hg' hx => by
            simp at hx; subst hx
            exact owns_disj h2' hrow3 (by decide) g' hg' rfl)
        · have ei : i = Q.length := by simp at h1; omega
          subst ei
          have e2 : (qvs ++ [Value.slice (some ⟨gg, 0, none⟩) (ps.length + 1) cap'])[Q.length] = .slice (some ⟨gg, 0, none⟩) (ps.length + 1) cap' := by rw [List.getElem_append_right (by omega)]; simp [hql]
          rw [e2]
          simp only [List.getElem_append_right (Nat.le_refl _), Nat.sub_self, List.getElem_cons_zero]
          rw [List.length_append, intV_one]
          exact hl4
      · intro i j hi' hj' hij g' hg'
        by_cases e : j < qvs.length
        · rw [List.getElem_append_left e]
          rw [List.getElem_append_left (by omega)] at hg'
          have := HH.out.apart i j (by simp; omega) (by simp; omega) hij g' (by rw [List.getElem_append_left (by omega)]; exact hg')
          rw [List.getElem_append_left e] at this
          exact this
        · have ej : j = qvs.length := by simp at hj'; omega
          subst ej
          rw [List.getElem_append_left (by omega)] at hg'
          have e2 : (qvs ++ [Value.slice (some ⟨gg, 0, none⟩) (ps.length + 1) cap'])[qvs.length] = .slice (some ⟨gg, 0, none⟩) (ps.length + 1) cap' := by rw [List.getElem_append_right (Nat.le_refl _)]; simp
          rw [e2]
          intro hgg
          simp [Value.ownBlock] at hgg
          subst hgg
          rcases hat3 with e3 | e3
          · have := HH.out.apart i qvs.length (by simp; omega) (by simp) hij gg (by rw [List.getElem_append_left (by omega)]; exact hg')
            rw [List.getElem_append_right (Nat.le_refl _)] at this
            exact this (by simpa using e3)
          · have := (HH.out.foot_lt gg (foot_each (i := i) (by simp; omega) (by rw [List.getElem_append_left (by omega)]; exact hg'))).2
            omega
      · refine ((kw2.mono (by simp)).next (kg.mono ?_)).next (ks.mono ?_)
        · intro x hx; rw [hlast]; simp only [List.mem_append]; exact .inr hx
        · intro x hx; simp at hx; subst hx; rw [hlast]; simp
      · intro x hx
        simp only [foot, List.mem_append, List.mem_flatMap, List.mem_singleton] at hx
        rcases hx with hx | ⟨u, hu | rfl, hx⟩
        · left; rw [hlast]; simp [Value.ownBlock] at hx; subst hx; simp
        · left; rw [hlast]; simp only [List.mem_append, List.mem_cons, List.mem_flatMap]; exact .inl (.inr ⟨u, hu, hx⟩)
        · simp [Value.ownBlock] at hx; subst hx
          rcases hat3 with e3 | e3
          · left; rw [hlast]; simp only [List.mem_append]; right; simp [e3]
          · right; omega
    have HFIN := hide hfin
    clear hfin hr4 hxs hl4 hlast hown3 hgrow hrow3 s0 s1 kg ks q0 q1 r0 r1
    go_wp2_with fail
    go_ret
    exact HFIN.out
theorem spot_any (base d p : Nat) (v : Value) (P : List Po) (pvs : List Value) (w : World) (h : PostIs w base v P pvs) (hn : P.length ≤ 100000) (hps : ∀ l ∈ P, l.2.length ≤ 100000) (hb : base ≤ w.heap.size) (hd : d ≤ 2000000) (hp : p ≤ 2000000) :
    Calls Tryz.prog 168 #[v, .agg #[.int .i64 d, .int .i64 p]] w (SpotPost w base v P pvs d p) := by
  cases hg : P.getLast? with
  | none =>
    have hP : P = [] := by simpa using hg
    refine spot_new base d p v P pvs w h (by simp [wsF, hP]) (fun l hl => by rw [hg] at hl; simp at hl) hn hb hd hp
  | some l =>
    by_cases e : l.1 = d
    · have hne : P ≠ [] := by intro e; subst e; simp at hg
      have hP : P = P.dropLast ++ [l] := by
        have h1 := List.dropLast_concat_getLast hne
        rw [List.getLast?_eq_some_getLast hne] at hg
        simp at hg
        rw [hg] at h1
        exact h1.symm
      have hpne : pvs ≠ [] := by
        intro e; have := h.len; rw [e] at this; simp at this
        exact hne (List.eq_nil_of_length_eq_zero this.symm)
      have hpv := (List.dropLast_concat_getLast hpne).symm
      have hw : wsF P d p = P.dropLast ++ [(d, l.2 ++ [p])] := by simp [wsF, hg, e]
      have hl : l = (d, l.2) := by rw [← e]
      have hmem : l ∈ P := by rw [hP]; simp
      have hlen := congrArg List.length hP
      simp at hlen
      have := spot_old base d p v P.dropLast l.2 pvs.dropLast (pvs.getLast hpne) w (by rw [← hl, ← hP, ← hpv]; exact h) (by simp; omega) (hps l hmem) hb hd hp
      rw [← hpv] at this
      unfold SpotPost
      rw [hw]
      exact this
    · exact spot_new base d p v P pvs w h (by simp [wsF, hg, e]) (fun l' hl' => by rw [hg] at hl'; simp at hl'; subst hl'; exact e) hn hb hd hp

def upd {α : Type} (F : Nat → α) (t : Nat) (x : α) : Nat → α := fun t' => if t' = t then x else F t'
/-- The lists of postings, term by term. -/
structure ListsIs (w : World) (base Lb nt : Nat) (vF : Nat → Value) (PF : Nat → List Po) (pF : Nat → List Value) : Prop where
  blk : w.heap[Lb]? = some (.cells ((List.range nt).map vF).toArray 203 (0, 0))
  each : ∀ t, t < nt → PostIs w base (vF t) (PF t) (pF t)
  disj : ∀ t t', t < nt → t' < nt → t ≠ t' → ∀ x ∈ foot (vF t) (pF t), x ∉ foot (vF t') (pF t')
/-- What k places of a row of doc d add. -/
def PFr (F : Nat → List Po) (d : Nat) (r : List Nat) : Nat → Nat → List Po
  | 0 => F
  | k + 1 => upd (PFr F d r k) (r.getD k 0) (wsF (PFr F d r k (r.getD k 0)) d k)
def PFd (rows : List (List Nat)) : Nat → Nat → List Po
  | 0 => fun _ => []
  | d + 1 => PFr (PFd rows d) d (rows.getD d []) (rows.getD d []).length

theorem foot_ne {w : World} {base R : Nat} {v : Value} {P : List Po} {pvs : List Value} {cs : Array Value} {t : TypeId} {fr : Nat × Nat} (h : PostIs w base v P pvs) (hR : w.heap[R]? = some (.cells cs t fr)) (h1 : t ≠ 242) (h2 : t ≠ 3) : R ∉ foot v pvs := by
  intro hx
  simp only [foot, List.mem_append, List.mem_flatMap] at hx
  rcases hx with hx | ⟨u, hu, hx⟩
  · exact owns_ne h.row hR h1 (by simpa using hx)
  · obtain ⟨i, hi, rfl⟩ := List.getElem_of_mem hu
    exact owns_ne (h.each i (by rw [← h.len]; exact hi) hi) hR h2 (by simpa using hx)
theorem ListsIs.kp {S : List Nat} {w w' : World} {base Lb nt : Nat} {vF : Nat → Value} {PF : Nat → List Po} {pF : Nat → List Value} (h : ListsIs w base Lb nt vF PF pF) (k : Kp S w w') (hL : Lb ∉ S) (hS : ∀ t, t < nt → ∀ x ∈ S, x ∉ foot (vF t) (pF t)) : ListsIs w' base Lb nt vF PF pF :=
  ⟨k.heap h.blk hL, fun t ht => (h.each t ht).kp k (hS t ht), h.disj⟩

/-- The lists behind a spot of term t. -/
theorem ListsIs.spot {w w1 : World} {base Lb nt t : Nat} {vF : Nat → Value} {PF : Nat → List Po} {pF : Nat → List Value} {v' : Value} {P' : List Po} {pvs' : List Value} (h : ListsIs w base Lb nt vF PF pF) (ht : t < nt) (hp : PostIs w1 base v' P' pvs') (k : Kp (foot (vF t) (pF t)) w w1) (hf : ∀ x ∈ foot v' pvs', x ∈ foot (vF t) (pF t) ∨ w.heap.size ≤ x) :
    ListsIs (w1.setCell ⟨Lb, t, none⟩ v') base Lb nt (upd vF t v') (upd PF t P') (upd pF t pvs') := by
  have hLf : Lb ∉ foot (vF t) (pF t) := foot_ne (h.each t ht) h.blk (by decide) (by decide)
  have hb1 := k.heap h.blk hLf
  have ks : Kp [Lb] w1 (w1.setCell ⟨Lb, t, none⟩ v') := (Kp.refl _ _).setCell (.inl (by simp)) _
  have heach : ∀ t', t' < nt → PostIs w1 base (upd vF t v' t') (upd PF t P' t') (upd pF t pvs' t') := by
    intro t' ht'
    unfold upd
    by_cases e : t' = t
    · simp only [e, if_true]; exact hp
    · simp only [e, if_false]
      exact (h.each t' ht').kp k (h.disj t t' ht ht' (Ne.symm e))
  refine ⟨?_, ?_, ?_⟩
  · rw [heap_setCell_same w1 Lb t _ 203 v' hb1]
    congr 2
    rw [List.setIfInBounds_toArray]
    congr 1
    apply List.ext_getElem?
    intro i
    rw [List.getElem?_set]
    by_cases e : t = i
    · subst e
      simp [ht, upd]
    · rw [if_neg e]
      simp only [List.getElem?_map]
      by_cases hi : i < nt
      · simp [hi, upd, Ne.symm e]
      · simp [hi]
  · intro t' ht'
    refine (heach t' ht').kp ks (fun x hx => ?_)
    simp at hx; subst hx
    exact foot_ne (heach t' ht') hb1 (by decide) (by decide)
  · intro a b ha hb hab x hx
    unfold upd at hx ⊢
    by_cases ea : a = t
    · subst ea
      simp only [if_true] at hx
      simp only [Ne.symm hab, if_false]
      rcases hf x hx with h1 | h1
      · exact h.disj a b ha hb hab x h1
      · intro h2
        have := ((h.each b hb).foot_lt x h2).2
        omega
    · simp only [ea, if_false] at hx
      by_cases eb : b = t
      · subst eb
        simp only [if_true]
        intro h2
        rcases hf x h2 with h1 | h1
        · exact h.disj a b ha hb hab x hx h1
        · have := ((h.each a ha).foot_lt x hx).2
          omega
      · simp only [eb, if_false]
        exact h.disj a b ha hb hab x hx
def BdP (F : Nat → List Po) (n : Nat) : Prop := ∀ t, (F t).length ≤ n ∧ ∀ l ∈ F t, l.2.length ≤ n
theorem wsF_bd (P : List Po) (d p n : Nat) (h1 : P.length ≤ n) (h2 : ∀ l ∈ P, l.2.length ≤ n) : (wsF P d p).length ≤ n + 1 ∧ ∀ l ∈ wsF P d p, l.2.length ≤ n + 1 := by
  unfold wsF
  cases hg : P.getLast? with
  | none => simp
  | some l =>
    simp only
    have hm : l ∈ P := List.mem_of_getLast? hg
    split
    · refine ⟨by simp; omega, fun x hx => ?_⟩
      simp at hx
      rcases hx with hx | rfl
      · have := h2 x (List.dropLast_subset _ hx); omega
      · have := h2 l hm; simp; omega
    · refine ⟨by simp; omega, fun x hx => ?_⟩
      simp at hx
      rcases hx with hx | rfl
      · have := h2 x hx; omega
      · simp
theorem PFr_bd (F : Nat → List Po) (d : Nat) (r : List Nat) (n : Nat) (h : BdP F n) : ∀ k, BdP (PFr F d r k) (n + k)
  | 0 => h
  | k + 1 => by
    intro t
    have ih := PFr_bd F d r n h k
    simp only [PFr, upd]
    split
    · have := wsF_bd (PFr F d r k (r.getD k 0)) d k (n + k) (ih _).1 (ih _).2
      exact this
    · exact ⟨by have := (ih t).1; omega, fun l hl => by have := (ih t).2 l hl; omega⟩
theorem PFd_bd (rows : List (List Nat)) (hs : ∀ r ∈ rows, r.length ≤ 60) : ∀ d, BdP (PFd rows d) (60 * d)
  | 0 => fun t => by simp [PFd]
  | d + 1 => by
    have ih := PFd_bd rows hs d
    have hl : (rows.getD d []).length ≤ 60 := by
      rw [List.getD_eq_getElem?_getD]
      cases hg : rows[d]? with
      | none => simp
      | some r => exact hs r (List.mem_of_getElem? hg)
    have := PFr_bd (PFd rows d) d (rows.getD d []) (60 * d) ih (rows.getD d []).length
    intro t
    exact ⟨by have := (this t).1; simp only [PFd]; omega, fun l hl' => by have := (this t).2 l hl'; omega⟩

theorem info74 : (Tryz.prog.info? 203).map (fun i => (i.zero, i.size, i.bytes)) = some (some (.slice none 0 0), 1, 24) := by kernel_rfl
theorem make_lists (c : Nat) (w : World) (hc : c ≤ 2000000) : (Instr.makeSlice 201 (.int .i64 c) (.int .i64 c)).run Tryz.prog w = .ok (.slice (some ⟨w.heap.size, 0, none⟩) c c) (w.alloc (.cells ((List.range c).map fun _ => Value.slice none 0 0).toArray 203)) := by
  obtain ⟨i0, hi, hz0, hz1, hz2⟩ := info_parts info74
  have := run_make (P := Tryz.prog) w 201 203 i0 (.slice none 0 0) Tryz.underlying201 hi hz0 .i64 .i64 c c (by omega) (by omega) (by rw [hz2]; omega) (by omega)
  rw [hz1, Nat.mul_one] at this
  simp only [Int.toNat_natCast] at this
  have e : Array.replicate c (Value.slice none 0 0) = ((List.range c).map fun _ => Value.slice none 0 0).toArray := by
    apply Array.ext
    · simp
    · intro i h1 h2; simp
  rw [this, show (Value.slice none 0 0).cells = #[.slice none 0 0] from rfl, made_one, e]

theorem lists_cell {w : World} {Lb nt t : Nat} {vF : Nat → Value} (h : w.heap[Lb]? = some (.cells ((List.range nt).map vF).toArray 203 (0, 0))) (ht : t < nt) : w.cell? ⟨Lb, t, none⟩ = some (vF t) ∧ w.frozen? ⟨Lb, t, none⟩ = false := by
  constructor
  · simp only [World.cell?, h]
    simp [ht]
  · simp [World.frozen?, h]

set_option maxHeartbeats 4000000 in
set_option maxRecDepth 100000 in
theorem postings_any (M c B : Nat) (f : Nat → Nat → Option Nat) (iv tv : Value) (ids : List Nat) (terms : List (List UInt8)) (rows : List (List Nat)) (w : World) (hm : MapIs w M c f) (hi : w.ownsRow B 3 1 iv ids.length (intV ids)) (ht : w.ownsRow B 9 1 tv terms.length (strV terms)) (hr : RowsAre f rows terms.length) (hs : ∀ r ∈ rows, r.length ≤ 60) (hlen : rows.length = ids.length) (hn : ids.length ≤ 60) (hnt : terms.length ≤ 100000) :
    Calls Tryz.prog 127 #[.agg #[iv, tv, .map (some M)]] w fun e w' => ∃ Lb vF pF, e = .returned (.slice (some ⟨Lb, 0, none⟩) terms.length terms.length) ∧ ListsIs w' w.heap.size Lb terms.length vF (PFd rows rows.length) pF ∧ w.heap.size ≤ Lb ∧ Kp [] w w' := by
  obtain ⟨ai, ci, rfl, hai⟩ := owns_forms hi
  obtain ⟨at', ct, rfl, hat⟩ := owns_forms ht
  obtain ⟨n, hnE⟩ : ∃ n, ids.length = n := ⟨_, rfl⟩
  obtain ⟨nt, hntE⟩ : ∃ nt, terms.length = nt := ⟨_, rfl⟩
  rw [hntE] at hnt hr ⊢
  rw [hnE] at hn hlen ⊢
  have hmk := fun w' => make_lists nt w' (by omega)
  have HM := hide hm
  have HR := hide hr
  have HS := hide hs
  have Hlen := hide hlen
  clear hm hi ht hr hlen hnE hntE hai hat hs
  go_enter Tryz.func127, Tryz.ntmps127
  go_wp2_with fail
  obtain ⟨W, hW⟩ : ∃ W, (w.alloc (.cells #[.slice ai n ci, .slice at' nt ct, .map (some M)] 105)).alloc (.cells ((List.range nt).map fun _ => Value.slice none 0 0).toArray 203) = W := ⟨_, rfl⟩
  have k0 : Kp [] w W := by rw [← hW]; exact ((Kp.refl _ _).alloc _).alloc _
  have hT0 : W.heap[w.heap.size]? = some (.cells #[.slice ai n ci, .slice at' nt ct, .map (some M)] 105 (0, 0)) := by
    rw [← hW, Below.heap_alloc _ _ _ (by simp)]; exact heap_alloc_new w _
  have hL0 : ListsIs W w.heap.size (w.heap.size + 1) nt (fun _ => .slice none 0 0) (PFd rows 0) (fun _ => []) := by
    refine ⟨?_, fun t _ => PostIs.nil _ _, fun t t' _ _ _ x hx => by simp [foot, Value.ownBlock] at hx⟩
    rw [← hW]
    have := heap_alloc_new (w.alloc (.cells #[.slice ai n ci, .slice at' nt ct, .map (some M)] 105)) (.cells ((List.range nt).map fun _ => Value.slice none 0 0).toArray 203)
    rw [World.size_alloc] at this
    exact this
  have hsz0 : W.heap.size = w.heap.size + 2 := by rw [← hW]; simp
  obtain ⟨Lb, hLb⟩ : ∃ Lb, w.heap.size + 1 = Lb := ⟨_, rfl⟩
  have hlb1 : w.heap.size < Lb := by omega
  have hlb2 : Lb < W.heap.size := by omega
  rw [hLb] at hL0
  rw [hW, hLb]
  have HT0 := hide hT0
  have HL0 := hide hL0
  clear hT0 hL0 hW hmk hsz0 hLb
  go_loopw [14] (fun dv wr => ∃ (d : Nat) (vF : Nat → Value) (pF : Nat → List Value), d ≤ n ∧ dv = .int .i64 d ∧ ListsIs wr w.heap.size Lb nt vF (PFd rows d) pF ∧ wr.heap[w.heap.size]? = some (.cells #[.slice ai n ci, .slice at' nt ct, .map (some M)] 105 (0, 0)) ∧ Lb < wr.heap.size ∧ Kp [] w wr) (fun dv _ => n - (intOf dv).toNat)
  case atStart => exact ⟨0, _, _, by omega, rfl, HL0.out, HT0.out, hlb2, k0⟩
  case round =>
    clear HT0 HL0 k0 hlb2
    obtain ⟨d, vF, pF, hd, rfl, hL, hT, hsz, hkp⟩ := hrel
    by_cases hlt : d < n
    · have hdr : d < rows.length := by rw [Hlen.out]; exact hlt
      obtain ⟨b0, b1, b2, _, _, _⟩ := tb_cells hT
      have hmr := HM.out.kp hkp (by simp)
      have hrow := row_any M c d f (.slice ai n ci) (.slice at' nt ct) rows[d] wr hmr (HR.out.at' d hdr) (HR.out.stop d hdr) (HR.out.small d hdr) (by omega) rfl rfl
      have hrl := HR.out.lt d hdr
      have hrs := HS.out rows[d] (List.getElem_mem hdr)
      have hbd := PFd_bd rows HS.out d
      have hstep : PFd rows (d + 1) = PFr (PFd rows d) d rows[d] rows[d].length := by
        show PFr (PFd rows d) d (rows.getD d []) (rows.getD d []).length = _
        rw [List.getD_eq_getElem?_getD, List.getElem?_eq_getElem hdr]; rfl
      obtain ⟨r, hrE⟩ : ∃ r, rows[d] = r := ⟨_, rfl⟩
      rw [hrE] at hrow hrl hrs hstep
      have HROW := hide hrow
      have HRL := hide hrl
      have HBD := hide hbd
      have HST := hide hstep
      have HL := hide hL
      have HT := hide hT
      clear hrow hrl hbd hstep hL hT hrE hmr
      go_wp2_with fail
      refine HROW.out.mono ?_
      rintro e wi ⟨rv, rfl, hrv, hki⟩
      obtain ⟨ar, cr, rfl, har⟩ := owns_forms hrv
      have hLi := HL.out.kp hki (by simp) (by simp)
      have hTi := hki.heap HT.out (by simp)
      have hszi := hki.size
      have hfo : ∀ t, t < nt → ∀ x ∈ foot (vF t) (pF t), x < wr.heap.size ∨ wi.heap.size ≤ x := fun t ht x hx => .inl ((HL.out.each t ht).foot_lt x hx).2
      obtain ⟨H0, hH0⟩ : ∃ H0, wr.heap.size = H0 := ⟨_, rfl⟩
      rw [hH0] at hrv hfo hszi
      have HH0 := hide hH0
      clear hH0
      have HLi := hide hLi
      have HTi := hide hTi
      have HRV := hide hrv
      have HFO := hide hfo
      clear hLi hTi hrv hfo b0 b1 b2
      go_wp2_with fail
      go_loopw [21] (fun kv w2 => ∃ (k : Nat) (vF' : Nat → Value) (pF' : Nat → List Value), k ≤ r.length ∧ kv = .int .i64 k ∧ ListsIs w2 w.heap.size Lb nt vF' (PFr (PFd rows d) d r k) pF' ∧ w2.heap[w.heap.size]? = some (.cells #[.slice ai n ci, .slice at' nt ct, .map (some M)] 105 (0, 0)) ∧ w2.ownsRow H0 3 1 (.slice ar r.length cr) r.length (intV r) ∧ (∀ t, t < nt → ∀ x ∈ foot (vF' t) (pF' t), x < H0 ∨ wi.heap.size ≤ x) ∧ wi.heap.size ≤ w2.heap.size ∧ Kp [] w w2) (fun kv _ => r.length - (intOf kv).toNat)
      case atStart => exact ⟨0, _, _, by omega, rfl, HLi.out, HTi.out, HRV.out, HFO.out, Nat.le_refl _, hkp.next hki⟩
      case round =>
        clear HLi HTi HFO
        obtain ⟨k, vF', pF', hk, rfl, hL2, hT2, hrv2, hfo2, hsz2, hk2⟩ := hrel
        by_cases hlt2 : k < r.length
        · obtain ⟨gr, rfl⟩ := har (by omega)
          have hcr := ints_cells hrv2 rfl k hlt2
          have hxt := HRL.out r[k] (List.getElem_mem hlt2)
          have hgd : r.getD k 0 = r[k] := by rw [List.getD_eq_getElem?_getD, List.getElem?_eq_getElem hlt2]; rfl
          have hPE : PFr (PFd rows d) d r (k + 1) = upd (PFr (PFd rows d) d r k) r[k] (wsF (PFr (PFd rows d) d r k r[k]) d k) := by
            show upd _ (r.getD k 0) _ = _
            rw [hgd]
          have hbk := PFr_bd (PFd rows d) d r (60 * d) HBD.out k r[k]
          obtain ⟨t, ht⟩ : ∃ t, r[k] = t := ⟨_, rfl⟩
          rw [ht] at hcr hxt hPE hbk
          have hpost := hL2.each t hxt
          obtain ⟨av, cv, ev, _⟩ := owns_forms hpost.row
          obtain ⟨hcl, hfl⟩ := lists_cell hL2.blk hxt
          have hgl := (HRV.out.lt gr rfl)
          have hSP := spot_any w.heap.size d k (vF' t) _ (pF' t) wr hpost (by have := hbk.1; omega) (fun l hl => by have := hbk.2 l hl; omega) hk2.size (by omega) (by omega)
          have hLf : Lb ∉ foot (vF' t) (pF' t) := foot_ne hpost hL2.blk (by decide) (by decide)
          have hTf : w.heap.size ∉ foot (vF' t) (pF' t) := foot_ne hpost hT2 (by decide) (by decide)
          have hflt := hpost.foot_lt
          have HF := hide hflt
          have HLf := hide hLf
          have HTf := hide hTf
          rw [ev] at hcl hSP
          have Hev := hide ev
          have HSP := hide hSP
          have HL2 := hide hL2
          have HT2 := hide hT2
          have HRV2 := hide hrv2
          have HFO2 := hide hfo2
          have HPE := hide hPE
          clear hSP hL2 hT2 hrv2 hfo2 hPE ht hpost ev hgd hbk hflt hLf hTf
          go_wp2_with fail
          refine HSP.out.mono ?_
          rintro e w3 ⟨v', pvs', rfl, hp3, hk3, hf3⟩
          rw [← Hev.out] at hk3 hf3
          have hLs := HL2.out.spot hxt hp3 hk3 hf3
          obtain ⟨a3, c3, e3, _⟩ := owns_forms hp3.row
          have hb3 := hk3.heap HL2.out.blk HLf.out
          obtain ⟨hc3, hfz3⟩ := lists_cell hb3 hxt
          have hT3 := hk3.heap HT2.out HTf.out
          have hrv3 := hk3.owns HRV2.out (fun g' hg' hx => by
            have e1 : gr = g' := by simpa [Value.ownBlock] using hg'
            subst e1
            rcases HFO2.out t hxt _ hx with h1 | h1 <;> omega)
          have hk3w : Kp [] w w3 := hk2.trans hk3 (fun x hx => .inr (HF.out x hx).1)
          have hsz3 := hk3.size
          subst e3
          have ks : Kp [Lb] w3 (w3.setCell ⟨Lb, t, none⟩ (.slice a3 (wsF (PFr (PFd rows d) d r k t) d k).length c3)) := (Kp.refl _ _).setCell (.inl (by simp)) _
          have hT4 := ks.heap hT3 (by simp; omega)
          have hrv4 := ks.owns hrv3 (fun g' hg' hx => by
            simp at hx; subst hx
            exact owns_ne hrv3 hb3 (by decide) hg')
          have hk4 : Kp [] w (w3.setCell ⟨Lb, t, none⟩ (.slice a3 (wsF (PFr (PFd rows d) d r k t) d k).length c3)) := hk3w.trans ks (by simp; omega)
          have hsz4 := ks.size
          have hfo4 : ∀ t', t' < nt → ∀ x ∈ foot (upd vF' t (.slice a3 (wsF (PFr (PFd rows d) d r k t) d k).length c3) t') (upd pF' t pvs' t'), x < H0 ∨ wi.heap.size ≤ x := by
            intro t' ht' x hx
            unfold upd at hx
            by_cases et : t' = t
            · simp only [et, if_true] at hx
              rcases hf3 x hx with h1 | h1
              · exact HFO2.out t hxt x h1
              · right; omega
            · simp only [et, if_false] at hx
              exact HFO2.out t' ht' x hx
          have HLS := hide hLs
          have HT4 := hide hT4
          have HRV4 := hide hrv4
          have HFO4 := hide hfo4
          clear hLs hT4 hrv4 hfo4 hT3 hrv3 hp3 hf3 hb3 hcr hcl hfl
          go_wp2_with fail
          go_roundw
          case rel =>
            refine ⟨k + 1, _, _, by omega, by go_num, ?_, HT4.out, HRV4.out, HFO4.out, by omega, hk4⟩
            rw [HPE.out]
            exact HLS.out
          case measure => simp [intOf]; omega
        · have ek : k = r.length := by omega
          subst ek
          have HL2 := hide hL2
          have HT2 := hide hT2
          clear hL2 hT2 hrv2 hfo2
          go_wp2_with fail
          go_roundw
          case rel =>
            refine ⟨d + 1, vF', pF', by omega, by go_num, ?_, HT2.out, heap_lt HL2.out.blk, hk2⟩
            rw [HST.out]; exact HL2.out
          case measure => simp [intOf]; omega
    · have ed : d = n := by omega
      subst ed
      have HL := hide hL
      clear hL hT
      go_wp2_with fail
      go_ret
      refine ⟨Lb, vF, pF, rfl, ?_, by omega, hkp⟩
      rw [Hlen.out]
      exact HL.out
end Go.Proofs.YtnffagpdnklnkaaGreatDoor.Pak
