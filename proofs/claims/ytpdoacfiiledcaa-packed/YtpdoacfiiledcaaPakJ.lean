import Derived.Test.YtpdoacfiiledcaaPakI
namespace Go.Proofs.Ytpdoacfiiledcaa.Pak
open Go.RowKit Go.Proofs.Ytpdoacfiiledcaa SiftM
set_option linter.unusedVariables false

theorem make_bytes (c : Nat) (w : World) (hc : c ≤ 4000000) : (Instr.makeSlice 36 (.int .i64 0) (.int .i64 c)).run Try.prog w = .ok (.slice (some ⟨w.heap.size, 0, none⟩) 0 c) (w.alloc (.cells (Array.replicate c (Value.int .u8 0)) 5)) := by
  obtain ⟨i0, hi, hz0, hz1, hz2⟩ := info_parts info5
  have := run_make (P := Try.prog) w 36 5 i0 (.int .u8 0) Try.underlying36 hi hz0 .i64 .i64 0 c (by omega) (by omega) (by rw [hz2]; omega) (by omega)
  rw [hz1, Nat.mul_one] at this
  simp only [Int.toNat_natCast] at this
  rw [this, show (Value.int .u8 0).cells = #[.int .u8 0] from rfl, made_one]
  rfl
theorem sumB_V (l : List UInt8) : byV (sumB l) = (sumN l).map fun (n : Nat) => Value.int .u8 (n : Int) := by
  have h := adl_lt l (1, 0) (by decide) (by decide)
  simp only [byV, sumB, sumN, List.map_cons, List.map_nil]
  rw [ofNat_toNat _ (by omega), ofNat_toNat _ (by omega), ofNat_toNat _ (by omega), ofNat_toNat _ (by omega)]

set_option maxHeartbeats 800000 in
set_option maxRecDepth 100000 in
theorem sealed_any (W base : Nat) (l : List UInt8) (w : World) (h : Wr w W base l) (h0 : 0 < l.length) (hl : l.length ≤ 1000000) :
    Calls Try.prog 34 #[.pointer (some ⟨W, 0, none⟩)] w fun e w' => ∃ v, e = .returned v ∧ w'.ownsRow w.heap.size 5 1 v (l.length + 4) (byV (l ++ sumB l)) ∧ Kp [] w w' := by
  obtain ⟨i0, hi, hz0, hz1, hz2⟩ := info_parts info5
  obtain ⟨a, cap, h1, hown⟩ := wr_slice h
  obtain ⟨a', cap', e, hg⟩ := owns_forms hown
  simp at e
  obtain ⟨rfl, rfl⟩ := e
  obtain ⟨g, rfl⟩ := hg h0
  have hgl := hown.lt g rfl
  obtain ⟨c0, f0⟩ := wr_cell h1
  have hWl := heap_lt h1
  have H1 := hide h1
  have HO := hide hown
  have hne := owns_ne hown h1 (by decide)
  have hsum := hide (sum_any (some ⟨g, 0, none⟩) cap l w (vw_of_owns hown rfl) (by omega))
  have hsv := hide (sumB_V l)
  obtain ⟨s0, s1, s2, s3, hs⟩ : ∃ s0 s1 s2 s3, sumN l = [s0, s1, s2, s3] := ⟨_, _, _, _, rfl⟩
  have hsA : sumA l = .agg #[.int .u8 (s0 : Int), .int .u8 (s1 : Int), .int .u8 (s2 : Int), .int .u8 (s3 : Int)] := by unfold sumA; rw [hs]; rfl
  rw [hsA] at hsum
  rw [hs] at hsv
  clear h h1 hown hs hsA
  have hmk : ∀ w', (Instr.makeSlice 36 (.int .i64 0) (.int .i64 ((l.length : Int) + 4))).run Try.prog w' = .ok (.slice (some ⟨w'.heap.size, 0, none⟩) 0 (l.length + 4)) (w'.alloc (.cells (Array.replicate (l.length + 4) (Value.int .u8 0)) 5)) := fun w' => make_bytes (l.length + 4) w' (by omega)
  go_enter Try.func34, Try.ntmps34
  go_wp2_with fail
  refine hsum.out.mono ?_
  rintro e w1 ⟨rfl, hk1⟩
  have hW1 := hk1.heap H1.out (by simp)
  obtain ⟨c1, f1⟩ := wr_cell hW1
  have hz1' := hk1.size
  have ho1 := hk1.owns HO.out (by simp)
  have HO1 := hide ho1
  have hWl1 : W < w1.heap.size := by omega
  have hWne : W ≠ w1.heap.size := by omega
  have hWe : (W == w1.heap.size) = false := by simpa using hWne
  clear hW1 ho1 hsum c0 f0
  have hWl2 : W < w1.heap.size + 1 := by omega
  have hWl3 : W < w1.heap.size + 1 + 1 := by omega
  have hob := World.ownsRow_made (base := w.heap.size) (e := 5) (size := 1) (w1.alloc (.cells #[.int .u8 (s0 : Int), .int .u8 (s1 : Int), .int .u8 (s2 : Int), .int .u8 (s3 : Int)] 104)) (Array.replicate (l.length + 4) (Value.int .u8 0)) (l.length + 4) (by simp; omega) (by unfold maxLen; omega) (by simp)
  have hoc : ∀ j u, (byV l)[j]? = some u → ((w1.alloc (.cells #[.int .u8 (s0 : Int), .int .u8 (s1 : Int), .int .u8 (s2 : Int), .int .u8 (s3 : Int)] 104)).alloc (.cells (Array.replicate (l.length + 4) (Value.int .u8 0)) 5)).cell? ((⟨g, 0, none⟩ : Addr).add j) = some u := ((HO1.out.alloc _).alloc _).cells (g := g) rfl
  have h1c : ∀ u ∈ byV l, u.oneCell' = true := by intro u hu; simp [byV] at hu; obtain ⟨c, _, rfl⟩ := hu; rfl
  rw [World.size_alloc] at hob
  have HOB := hide hob
  have HOC := hide hoc
  have H1C := hide h1c
  clear hob hoc h1c
  go_wp2_with (first
    | (at_builtin; (refine wpList_append_own_at _ rfl _ _ 36 rfl w.heap.size 5 i0 (.int .u8 0) 1 1 Try.underlying36 hi hz0 hz1 hz2 rfl (by decide) _ _ _ rfl HOB.out ⟨g, 0, none⟩ l.length cap (byV l) rfl ?c0 HOC.out H1C.out ?c1 ?c2 ?c3 ?_))
    | fail)
  case c0 => simp [byV]
  case c1 => unfold maxLen; omega
  case c2 => omega
  case c3 => simp; omega
  intro v2 w2 hown2 hgrow2 _ _
  replace hown2 : w2.ownsRow w.heap.size 5 1 v2 l.length (byV l) := by simpa using hown2
  have hT2 : w2.heap[w1.heap.size]? = some (.cells #[.int .u8 (s0 : Int), .int .u8 (s1 : Int), .int .u8 (s2 : Int), .int .u8 (s3 : Int)] 104 (0, 0)) := by
    rw [hgrow2.block w1.heap.size (by simp; omega) (by simp [Value.ownBlock]), Below.heap_alloc _ _ _ (by simp)]
    exact heap_alloc_new w1 _
  have hcs : ∀ j u, [Value.int .u8 (s0 : Int), .int .u8 (s1 : Int), .int .u8 (s2 : Int), .int .u8 (s3 : Int)][j]? = some u → w2.cell? ((⟨w1.heap.size, 0, none⟩ : Addr).add j) = some u := by
    intro j u hu
    have e : (⟨w1.heap.size, 0, none⟩ : Addr).add j = ⟨w1.heap.size, j, none⟩ := by unfold Addr.add; split <;> simp_all
    rw [e]
    simp only [World.cell?, hT2]
    simpa using hu
  have h1d : ∀ u ∈ [Value.int .u8 (s0 : Int), .int .u8 (s1 : Int), .int .u8 (s2 : Int), .int .u8 (s3 : Int)], u.oneCell' = true := by
    intro u hu; simp at hu; rcases hu with rfl | rfl | rfl | rfl <;> rfl
  have hz2' := hgrow2.size
  simp at hz2'
  have k2 : Kp [] w w2 := ((hk1.alloc _).alloc _).grown hgrow2 (by intro k hk; simp [Value.ownBlock] at hk; right; omega)
  have HCS := hide hcs
  have H1D := hide h1d
  have HO2 := hide hown2
  obtain ⟨a2, cap2, rfl, _⟩ := owns_forms hown2
  clear hcs h1d hT2 hown2 hgrow2 HOB HOC H1C hmk
  go_wp2_with (first
    | (at_builtin; refine wpList_append_own_at _ rfl _ _ 36 rfl w.heap.size 5 i0 (.int .u8 0) 1 1 Try.underlying36 hi hz0 hz1 hz2 rfl (by decide) _ _ _ rfl HO2.out ⟨w1.heap.size, 0, none⟩ 4 4 [.int .u8 (s0 : Int), .int .u8 (s1 : Int), .int .u8 (s2 : Int), .int .u8 (s3 : Int)] rfl ?c0 HCS.out H1D.out ?c1 ?c2 ?c3 ?_)
    | fail)
  case c0 => rfl
  case c1 => unfold maxLen; omega
  case c2 => omega
  case c3 => omega
  intro v3 w3 hown3 hgrow3 _ _
  have HO3 := hide hown3
  obtain ⟨a3, cap3, rfl, _⟩ := owns_forms hown3
  clear hown3
  go_wp2_with fail
  go_ret
  refine ⟨_, rfl, ?_, k2.grown hgrow3 (fun k hk => .inr (HO2.out.lt k hk).1)⟩
  rw [byV_append, hsv.out]
  exact HO3.out
end Go.Proofs.Ytpdoacfiiledcaa.Pak
