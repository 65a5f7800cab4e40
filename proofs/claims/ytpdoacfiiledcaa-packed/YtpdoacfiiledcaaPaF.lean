import Derived.Test.YtpdoacfiiledcaaPaE
namespace Go.Proofs.Ytpdoacfiiledcaa.Pak
open Go.RowKit Go.Proofs.Ytpdoacfiiledcaa SiftM
set_option linter.unusedVariables false

/-- The rest of withSpot where a posting is put behind. -/
theorem spot_end {w w1 w2 : World} {base d p : Nat} {v v' lv : Value} {P : List Po} {pvs : List Value} (h : PostIs w base v P pvs) (hne : wsF P d p = P ++ [(d, [p])]) (hb : base ≤ w.heap.size) (k1 : Kp [] w w1) (hl : w1.ownsRow w.heap.size 3 1 lv 1 (intV [p]))
    (hrow : w2.ownsRow base 103 2 v' (P.length + 1) (tx2 ((P.map Prod.fst).zip pvs) ++ [.int .i64 (d : Int), lv])) (k2 : Kp v.ownBlock.toList w1 w2) (hloc : v'.ownBlock = v.ownBlock ∨ ∃ g, v'.ownBlock = some g ∧ w.heap.size ≤ g) :
    SpotPost w base v P pvs d p (.returned v') w2 := by
  have h1 := h.kp k1 (by simp)
  have hl' : w1.ownsRow base 3 1 lv [p].length (intV [p]) := by
    refine ⟨hl.1, ?_⟩
    rcases hl.2 with h' | ⟨g', cp, cur, e1, hb', rest⟩
    · exact .inl h'
    · exact .inr ⟨g', cp, cur, e1, by omega, rest⟩
  refine ⟨v', pvs ++ [lv], rfl, ?_, ?_, ?_⟩
  · rw [hne]
    refine h1.snoc hl' ?_ hrow k2
    intro i hi g hg hg2
    have h2 := (hl.lt g hg2).1
    have h3 := (h.foot_lt g (foot_each hi hg)).2
    omega
  · exact (k1.mono (by simp)).next (k2.mono (fun x hx => by simp only [foot, List.mem_append]; exact .inl hx))
  · intro x hx
    simp only [foot, List.mem_append, List.mem_flatMap, List.mem_singleton] at hx
    rcases hx with hx | ⟨u, hu | rfl, hx⟩
    · have hx' : v'.ownBlock = some x := by simpa using hx
      rcases hloc with e | ⟨g, e, hg⟩
      · left; exact foot_row (by rw [← e]; exact hx')
      · right; rw [e] at hx'; simp at hx'; omega
    · left
      simp only [foot, List.mem_append, List.mem_flatMap]
      exact .inr ⟨u, hu, hx⟩
    · right
      exact (hl.lt x (by simpa using hx)).1

set_option maxHeartbeats 2000000 in
set_option maxRecDepth 100000 in
theorem spot_new (base d p : Nat) (v : Value) (P : List Po) (pvs : List Value) (w : World) (h : PostIs w base v P pvs) (hne : wsF P d p = P ++ [(d, [p])]) (hlast : ∀ l, P.getLast? = some l → l.1 ≠ d) (hn : P.length ≤ 100000) (hb : base ≤ w.heap.size) (hd : d ≤ 1000000) (hp : p ≤ 1000000) :
    Calls Try.prog 50 #[v, .agg #[.int .i64 d, .int .i64 p]] w (SpotPost w base v P pvs d p) := by
  obtain ⟨i0, hi, hz0, hz1, hz2⟩ := info_parts info103
  obtain ⟨a, cap, rfl, ha⟩ := owns_forms h.row
  obtain ⟨W, hW⟩ : ∃ W, w.alloc (.cells #[.int .i64 (d : Int), .int .i64 (p : Int)] 95) = W := ⟨_, rfl⟩
  have kW : Kp [] w W := by rw [← hW]; exact (Kp.refl _ _).alloc _
  have hx : W.heap[w.heap.size]? = some (.cells #[.int .i64 (d : Int), .int .i64 (p : Int)] 95 (0, 0)) := by rw [← hW]; exact heap_alloc_new w _
  have hsW : W.heap.size = w.heap.size + 1 := by rw [← hW]; simp
  have HsW := hide hsW
  obtain ⟨p0, p1, _, _⟩ := rd_cells hx
  have hrow1 := kW.owns h.row (by simp)
  have HROW := hide hrow1
  have HH := hide h
  have Hne := hide hne
  have HX := hide hx
  clear h hne hx hrow1 hsW
  by_cases h0 : P.length = 0
  case' pos =>
    have hP0 : P = [] := List.eq_nil_of_length_eq_zero h0
    subst hP0
    clear h0 hlast
    go_enter Try.func50, Try.ntmps50
    go_wp2_with fail
    clear hW
    go_region
  case' neg =>
    have hpl : P.length - 1 < P.length := by omega
    have hpv : P.length - 1 < pvs.length := by rw [HH.out.len]; exact hpl
    obtain ⟨g, rfl⟩ := ha (by omega)
    have hcell := (HH.out.cells (P.length - 1) hpl hpv).1
    have hcell1 := kW.cellv hcell (by simp)
    have hlast' : P[P.length - 1].1 ≠ d := by
      apply hlast
      rw [List.getLast?_eq_getElem?, List.getElem?_eq_getElem hpl]
    obtain ⟨y, hy⟩ : ∃ y, P[P.length - 1].1 = y := ⟨_, rfl⟩
    rw [hy] at hcell1 hlast'
    have d1 : decide ((P.length : Int) - 1 < 0) = false := by simp; omega
    have d2 : ¬ ((P.length : Int) - 1 < 0) := by omega
    have i0' : (0 : Int) ≤ (P.length : Int) - 1 := by omega
    have i1' : (P.length : Int) - 1 < (P.length : Int) := by omega
    have i2' : ((P.length : Int) - 1).toNat = P.length - 1 := by omega
    have i3 : IntKind.i64.wrap ((P.length : Int) - 1) = (P.length : Int) - 1 := IntWalk.i64_in _ ⟨by omega, by omega⟩
    have d3 : ((y : Int) == (d : Int)) = false := by simp; omega
    clear hy hcell hlast
    go_enter Try.func50, Try.ntmps50
    go_wp2_with fail
    clear hW
    go_region
    clear d1 d2 i0' i1' i2' i3 d3 hcell1
  all_goals
    obtain ⟨W2, hW2⟩ : ∃ W2, W.drew = W2 := ⟨_, rfl⟩
    have kW2 : Kp [] W W2 := by rw [← hW2]; exact (Kp.refl _ _).drewN 1
    have hx2 := kW2.heap HX.out (by simp)
    obtain ⟨r0, r1, _, _⟩ := rd_cells hx2
    have hrow2 := kW2.owns HROW.out (by simp)
    have HROW2 := hide hrow2
    have hs2 : W2.heap.size = W.heap.size := by rw [← hW2]; rfl
    have Hs2 := hide hs2
    have kw2 : Kp [] w W2 := kW.next kW2
    rw [hW2]
    clear hW2 hx2 hrow2 hs2 p0 p1 HROW
    go_wp2_with (first
      | (at_builtin; refine wpList_append_own_at _ rfl _ _ 75 rfl base 103 i0 (.agg #[.int .i64 0, .slice none 0 0]) 2 32 Try.underlying75 hi hz0 hz1 hz2 rfl (by decide) _ _ _ rfl ((HROW2.out.alloc _).alloc _) ⟨W2.heap.size + 1, 0, none⟩ 1 1 [.int .i64 (d : Int), .slice (some ⟨W2.heap.size, 0, none⟩) 1 1] rfl rfl (World.news_of_block (cs := #[.int .i64 (d : Int), .slice (some ⟨W2.heap.size, 0, none⟩) 1 1]) (t := 103) (fr := (0, 0)) (by have := heap_alloc_new (W2.alloc (.cells #[.int .i64 (p : Int)] 3)) (.cells #[.int .i64 (d : Int), .slice (some ⟨W2.heap.size, 0, none⟩) 1 1] 103); simpa using this)) ?c2 ?c3 ?c4 ?c5 ?_)
      | fail)
    case c2 => intro u hu; simp at hu; rcases hu with rfl | rfl <;> rfl
    case c3 => unfold maxLen; omega
    case c4 => omega
    case c5 => have h1 := HsW.out; have h2 := Hs2.out; simp; omega
    intro v' w2 hown2 hgrow2 _ hloc
    have k2 : Kp _ (W2.alloc (.cells #[.int .i64 (p : Int)] 3)) w2 := ((Kp.refl _ _).alloc (.cells #[.int .i64 (d : Int), .slice (some ⟨W2.heap.size, 0, none⟩) 1 1] 103)).grown hgrow2 (fun j hj => .inl (by rw [Option.mem_toList]; exact hj))
    have hlit := World.ownsRow_lit (base := w.heap.size) (e := 3) (size := 1) W2 #[.int .i64 (p : Int)] 1 (by have h1 := HsW.out; have h2 := Hs2.out; omega) (by unfold maxLen; omega) rfl
    have hloc2 := hloc.imp_right (fun e => (⟨_, e, by have h1 := HsW.out; have h2 := Hs2.out; simp; omega⟩ : ∃ g, v'.ownBlock = some g ∧ w.heap.size ≤ g))
    have hend := spot_end HH.out Hne.out hb (kw2.alloc _) hlit (by simpa using hown2) k2 hloc2
    have HEND := hide hend
    obtain ⟨a2, c2, rfl, _⟩ := owns_forms hown2
    clear hend hlit hown2 hgrow2 k2 hloc hloc2
    go_wp2_with fail
    go_ret
    exact HEND.out
end Go.Proofs.Ytpdoacfiiledcaa.Pak
