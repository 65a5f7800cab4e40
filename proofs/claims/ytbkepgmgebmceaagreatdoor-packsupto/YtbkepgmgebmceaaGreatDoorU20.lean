import Derived.Test.YtbkepgmgebmceaaGreatDoorU19
import Derived.Lib.BufferWrite

namespace Go.Proofs.YtbkepgmgebmceaaGreatDoor.Pak
open Go.RowKit Go.Proofs.YtbkepgmgebmceaaGreatDoor Go.Proofs.YtbkepgmgebmceaaGreatDoor.Spl SiftM
set_option linter.unusedVariables false

theorem make_bytes (c : Nat) (w : World) (hc : c ≤ 4000000) : (Instr.makeSlice 109 (.int .i64 0) (.int .i64 c)).run Tryz.prog w = .ok (.slice (some ⟨w.heap.size, 0, none⟩) 0 c) (w.alloc (.cells (Array.replicate c (Value.int .u8 0)) 5)) := by
  obtain ⟨i0, hi, hz0, hz1, hz2⟩ := info_parts info5
  have := run_make (P := Tryz.prog) w 109 5 i0 (.int .u8 0) Tryz.underlying109 hi hz0 .i64 .i64 0 c (by omega) (by omega) (by rw [hz2]; omega) (by omega)
  rw [hz1, Nat.mul_one] at this
  simp only [Int.toNat_natCast] at this
  rw [this, show (Value.int .u8 0).cells = #[.int .u8 0] from rfl, made_one]
  rfl
theorem sumB_V (l : List UInt8) : byV (sumB l) = (sumN l).map fun (n : Nat) => Value.int .u8 (n : Int) := by
  have h := adl_lt l (1, 0) (by decide) (by decide)
  simp only [byV, sumB, sumN, List.map_cons, List.map_nil]
  rw [ofNat_toNat _ (by omega), ofNat_toNat _ (by omega), ofNat_toNat _ (by omega), ofNat_toNat _ (by omega)]

set_option maxHeartbeats 800000 in
set_option maxRecDepth 100000 in
theorem sealed_any (W base : Nat) (l : List UInt8) (w : World) (h : Wr w W base l) (h0 : 0 < l.length) (hl : l.length ≤ 2000000) :
    Calls Tryz.prog 243 #[.pointer (some ⟨W, 0, none⟩)] w fun e w' => ∃ v, e = .returned v ∧ w'.ownsRow w.heap.size 5 1 v (l.length + 4) (byV (l ++ sumB l)) ∧ Kp [] w w' := by
  obtain ⟨i0, hi, hz0, hz1, hz2⟩ := info_parts info5
  obtain ⟨a, cap, h1, hown⟩ := wr_slice h
  obtain ⟨a', cap', e, hg⟩ := owns_forms hown
  simp at e
  obtain ⟨rfl, rfl⟩ := e
  obtain ⟨g, rfl⟩ := hg h0
  have hgl := hown.lt g rfl
  obtain ⟨c0, f0⟩ := wr_cell h1
  have hWl := heap_lt h1
  have H1 := hide h1
  have HO := hide hown
  have hne := owns_ne hown h1 (by decide)
  have hsum := hide (sum_any (some ⟨g, 0, none⟩) cap l w (vw_of_owns hown rfl) (by omega))
  have hsv := hide (sumB_V l)
  obtain ⟨s0, s1, s2, s3, hs⟩ : ∃ s0 s1 s2 s3, sumN l = [s0, s1, s2, s3] := ⟨_, _, _, _, rfl⟩
  have hsA : sumA l = .agg #[.int .u8 (s0 : Int), .int .u8 (s1 : Int), .int .u8 (s2 : Int), .int .u8 (s3 : Int)] := by unfold sumA; rw [hs]; rfl
  rw [hsA] at hsum
  rw [hs] at hsv
  clear h h1 hown hs hsA
  have hmk : ∀ w', (Instr.makeSlice 109 (.int .i64 0) (.int .i64 ((l.length : Int) + 4))).run Tryz.prog w' = .ok (.slice (some ⟨w'.heap.size, 0, none⟩) 0 (l.length + 4)) (w'.alloc (.cells (Array.replicate (l.length + 4) (Value.int .u8 0)) 5)) := fun w' => make_bytes (l.length + 4) w' (by omega)
  go_enter Tryz.func243, Tryz.ntmps243
  go_wp2_with fail
  refine hsum.out.mono ?_
  rintro e w1 ⟨rfl, hk1⟩
  have hW1 := hk1.heap H1.out (by simp)
  obtain ⟨c1, f1⟩ := wr_cell hW1
  have hz1' := hk1.size
  have ho1 := hk1.owns HO.out (by simp)
  have HO1 := hide ho1
  have hWl1 : W < w1.heap.size := by omega
  have hWne : W ≠ w1.heap.size := by omega
  have hWe : (W == w1.heap.size) = false := by simpa using hWne
  clear hW1 ho1 hsum c0 f0
  have hWl2 : W < w1.heap.size + 1 := by omega
  have hWl3 : W < w1.heap.size + 1 + 1 := by omega
  have hob := World.ownsRow_made (base := w.heap.size) (e := 5) (size := 1) (w1.alloc (.cells #[.int .u8 (s0 : Int), .int .u8 (s1 : Int), .int .u8 (s2 : Int), .int .u8 (s3 : Int)] 414)) (Array.replicate (l.length + 4) (Value.int .u8 0)) (l.length + 4) (by simp; omega) (by unfold maxLen; omega) (by simp)
  have hoc : ∀ j u, (byV l)[j]? = some u → ((w1.alloc (.cells #[.int .u8 (s0 : Int), .int .u8 (s1 : Int), .int .u8 (s2 : Int), .int .u8 (s3 : Int)] 414)).alloc (.cells (Array.replicate (l.length + 4) (Value.int .u8 0)) 5)).cell? ((⟨g, 0, none⟩ : Addr).add j) = some u := ((HO1.out.alloc _).alloc _).cells (g := g) rfl
  have h1c : ∀ u ∈ byV l, u.oneCell' = true := by intro u hu; simp [byV] at hu; obtain ⟨c, _, rfl⟩ := hu; rfl
  rw [World.size_alloc] at hob
  have HOB := hide hob
  have HOC := hide hoc
  have H1C := hide h1c
  clear hob hoc h1c
  go_wp2_with (first
    | (at_builtin; (refine wpList_append_own_at _ rfl _ _ 109 rfl w.heap.size 5 i0 (.int .u8 0) 1 1 Tryz.underlying109 hi hz0 hz1 hz2 rfl (by decide) _ _ _ rfl HOB.out ⟨g, 0, none⟩ l.length cap (byV l) rfl ?c0 HOC.out H1C.out ?c1 ?c2 ?c3 ?_))
    | fail)
  case c0 => simp [byV]
  case c1 => unfold maxLen; omega
  case c2 => omega
  case c3 => simp; omega
  intro v2 w2 hown2 hgrow2 _ _
  replace hown2 : w2.ownsRow w.heap.size 5 1 v2 l.length (byV l) := by simpa using hown2
  have hT2 : w2.heap[w1.heap.size]? = some (.cells #[.int .u8 (s0 : Int), .int .u8 (s1 : Int), .int .u8 (s2 : Int), .int .u8 (s3 : Int)] 414 (0, 0)) := by
    rw [hgrow2.block w1.heap.size (by simp; omega) (by simp [Value.ownBlock]), Below.heap_alloc _ _ _ (by simp)]
    exact heap_alloc_new w1 _
  have hcs : ∀ j u, [Value.int .u8 (s0 : Int), .int .u8 (s1 : Int), .int .u8 (s2 : Int), .int .u8 (s3 : Int)][j]? = some u → w2.cell? ((⟨w1.heap.size, 0, none⟩ : Addr).add j) = some u := by
    intro j u hu
    have e : (⟨w1.heap.size, 0, none⟩ : Addr).add j = ⟨w1.heap.size, j, none⟩ := by unfold Addr.add; split <;> simp_all
    rw [e]
    simp only [World.cell?, hT2]
    simpa using hu
  have h1d : ∀ u ∈ [Value.int .u8 (s0 : Int), .int .u8 (s1 : Int), .int .u8 (s2 : Int), .int .u8 (s3 : Int)], u.oneCell' = true := by
    intro u hu; simp at hu; rcases hu with rfl | rfl | rfl | rfl <;> rfl
  have hz2' := hgrow2.size
  simp at hz2'
  have k2 : Kp [] w w2 := ((hk1.alloc _).alloc _).grown hgrow2 (by intro k hk; simp [Value.ownBlock] at hk; right; omega)
  have HCS := hide hcs
  have H1D := hide h1d
  have HO2 := hide hown2
  obtain ⟨a2, cap2, rfl, _⟩ := owns_forms hown2
  clear hcs h1d hT2 hown2 hgrow2 HOB HOC H1C hmk
  go_wp2_with (first
    | (at_builtin; refine wpList_append_own_at _ rfl _ _ 109 rfl w.heap.size 5 i0 (.int .u8 0) 1 1 Tryz.underlying109 hi hz0 hz1 hz2 rfl (by decide) _ _ _ rfl HO2.out ⟨w1.heap.size, 0, none⟩ 4 4 [.int .u8 (s0 : Int), .int .u8 (s1 : Int), .int .u8 (s2 : Int), .int .u8 (s3 : Int)] rfl ?c0 HCS.out H1D.out ?c1 ?c2 ?c3 ?_)
    | fail)
  case c0 => rfl
  case c1 => unfold maxLen; omega
  case c2 => omega
  case c3 => omega
  intro v3 w3 hown3 hgrow3 _ _
  have HO3 := hide hown3
  obtain ⟨a3, cap3, rfl, _⟩ := owns_forms hown3
  clear hown3
  go_wp2_with fail
  go_ret
  refine ⟨_, rfl, ?_, k2.grown hgrow3 (fun k hk => .inr (HO2.out.lt k hk).1)⟩
  rw [byV_append, hsv.out]
  exact HO3.out
end Go.Proofs.YtbkepgmgebmceaaGreatDoor.Pak

namespace Go.Proofs.YtbkepgmgebmceaaGreatDoor.Own
open Go.RowKit Go.Proofs.YtbkepgmgebmceaaGreatDoor
open Go.Proofs.YtbkepgmgebmceaaGreatDoor.Spl
set_option linter.unusedVariables false

theorem make_wide (c : Nat) (w : World) (hc : c ≤ 4000000) : (Instr.makeSlice 109 (.int .i64 c) (.int .i64 c)).run Tryz.prog w = .ok (.slice (some ⟨w.heap.size, 0, none⟩) c c) (w.alloc (.cells (Array.replicate c (.int .u8 0)) 5)) := by
  obtain ⟨i0, hi, hz0, hz1, hz2⟩ := info_parts Tryz.info5o
  have := run_make (P := Tryz.prog) w 109 5 i0 (.int .u8 0) Tryz.underlying109 hi hz0 .i64 .i64 c c (by omega) (by omega) (by rw [hz2]; omega) (by omega)
  rw [hz1, Nat.mul_one] at this
  simp only [Int.toNat_natCast] at this
  rw [this, show (Value.int .u8 0).cells = #[.int .u8 0] from rfl, Pak.made_one]

/-- Bytes with eight places behind, of which j have 77. -/
def wideL (l : List UInt8) (j : Nat) : List Value := Lib.byteCells l ++ (List.replicate j (.int .u8 77) ++ List.replicate (8 - j) (.int .u8 0))
theorem wideL_len (l : List UInt8) (j : Nat) (h : j ≤ 8) : (wideL l j).length = l.length + 8 := by
  unfold wideL; rw [List.length_append, Lib.byteCells_length, List.length_append]; simp; omega
theorem wideL_set (l : List UInt8) (j : Nat) (h : j < 8) : (wideL l j).set (l.length + j) (.int .u8 77) = wideL l (j + 1) := by
  unfold wideL
  have hb := Lib.byteCells_length l
  rw [List.set_append_right _ _ (by rw [hb]; omega), hb, show l.length + j - l.length = j by omega, List.set_append_right _ _ (by simp), List.length_replicate, Nat.sub_self, show 8 - j = (8 - (j + 1)) + 1 by omega, List.replicate_succ, List.set_cons_zero, List.replicate_succ' (n := j)]
  simp
theorem copy_wide (s : ByteArray) (w : World) (ty : TypeId) : ∃ W, (Builtin.copy_ #[109, 9] ty #[.slice (some ⟨w.heap.size, 0, none⟩) (s.size + 8) (s.size + 8), .string s]).run Tryz.prog (w.alloc (.cells (Array.replicate (s.size + 8) (.int .u8 0)) 5)) = .ok (.int .i64 (s.size : Int)) W
    ∧ W.heap[w.heap.size]? = some (.cells (wideL s.data.toList 0).toArray 5 (0, 0)) ∧ Kp [] w W := by
  have hg := heap_alloc_new w (.cells (Array.replicate (s.size + 8) (.int .u8 0)) 5)
  have hr := Lib.run_copy_row_string (P := Tryz.prog) (w.alloc (.cells (Array.replicate (s.size + 8) (.int .u8 0)) 5)) 109 9 ty 5 w.heap.size 0 (s.size + 8) (s.size + 8) s _ 5 Tryz.underlying109 (by kernel_rfl) hg (by omega) (by simp)
  refine ⟨_, hr, ?_, ?_⟩
  · have hl : s.data.toList.length = s.size := by simp
    simp only [World.setRow]
    rw [Array.getElem?_modify, if_pos rfl, hg]
    simp [wideL]
  · refine ⟨rfl, rfl, rfl, by simp [World.setRow], fun k hk _ => ?_⟩
    simp only [World.setRow]
    rw [Array.getElem?_modify, if_neg (by omega)]
    exact Below.heap_alloc w _ k hk

set_option maxHeartbeats 1000000 in
set_option maxRecDepth 100000 in
theorem wide_any (s : ByteArray) (w : World) (hs : s.size ≤ 2000000) :
    Calls Tryz.prog 77 #[.string s] w fun e w' => e = .returned (.slice (some ⟨w.heap.size, 0, none⟩) s.size (s.size + 8)) ∧ w'.heap[w.heap.size]? = some (.cells (wideL s.data.toList 8).toArray 5 (0, 0)) ∧ Kp [] w w' := by
  have hmk : ∀ w', (Instr.makeSlice 109 (.int .i64 ((s.size : Int) + 8)) (.int .i64 ((s.size : Int) + 8))).run Tryz.prog w' = .ok (.slice (some ⟨w'.heap.size, 0, none⟩) (s.size + 8) (s.size + 8)) (w'.alloc (.cells (Array.replicate (s.size + 8) (.int .u8 0)) 5)) := fun w' => by
    have := make_wide (s.size + 8) w' (by omega)
    rw [show ((s.size + 8 : Nat) : Int) = (s.size : Int) + 8 by omega] at this
    exact this
  obtain ⟨W, hcp, hh, hkW⟩ := copy_wide s w 3
  have hl : s.data.toList.length = s.size := by simp
  have HL := hide hl
  have HH := hide hh
  have HK := hide hkW
  have hzW : w.heap.size < W.heap.size := lt_of_heap hh
  clear hl hh hkW
  go_enter Tryz.func77, Tryz.ntmps77
  go_wp2_with fail
  clear hmk hcp
  go_loopw [4] (fun iv wr => ∃ j : Nat, j ≤ 8 ∧ iv = .int .i64 ((s.size + j : Nat) : Int) ∧ Hid (wr.heap[w.heap.size]? = some (.cells (wideL s.data.toList j).toArray 5 (0, 0))) ∧ Hid (Kp [] w wr)) (fun iv _ => s.size + 8 - (intOf iv).toNat)
  case atStart => exact ⟨0, by omega, rfl, HH, HK⟩
  case round =>
    obtain ⟨j, hj, rfl, hh, hk⟩ := hrel
    by_cases hlt : j < 8
    · have hlen := wideL_len s.data.toList j (by omega)
      rw [HL.out] at hlen
      obtain ⟨x, hx⟩ : ∃ x, wr.cell? ⟨w.heap.size, s.size + j, none⟩ = some x := ⟨_, by rw [cell_of_row wr w.heap.size (s.size + j) _ 5 (0, 0) hh.out]; simp only [List.getElem?_toArray]; rw [List.getElem?_eq_getElem (by omega)]⟩
      have hf : wr.frozen? ⟨w.heap.size, s.size + j, none⟩ = false := by simp [World.frozen?, hh.out]
      have hset := hide (wideL_set s.data.toList j hlt)
      have h1 : (s.size : Int) + (j : Int) < (s.size : Int) + 8 := by omega
      have h0 : (0 : Int) ≤ (s.size : Int) + (j : Int) := by omega
      have h2 : ((s.size : Int) + (j : Int)).toNat = s.size + j := by omega
      rw [show ((s.size + j : Nat) : Int) = (s.size : Int) + (j : Int) by omega]
      clear hlen
      go_wp2_with fail
      go_roundw
      case rel =>
        refine ⟨j + 1, by omega, by go_num, ?_, hk.out.setCell (p := ⟨w.heap.size, s.size + j, none⟩) (.inr (Nat.le_refl _)) _⟩
        show _ = _
        rw [heap_setCell_same wr w.heap.size (s.size + j) _ 5 _ hh.out, ← hset.out, HL.out]
        simp
      case measure => simp [intOf]; omega
    · have ej : j = 8 := by omega
      subst ej
      go_wp2_with fail
      go_ret
      exact ⟨rfl, hh.out, hk.out⟩
end Go.Proofs.YtbkepgmgebmceaaGreatDoor.Own

namespace Go.Proofs.YtbkepgmgebmceaaGreatDoor.Own
open Go.RowKit Go.Proofs.YtbkepgmgebmceaaGreatDoor
open Go.Proofs.YtbkepgmgebmceaaGreatDoor.Spl
set_option linter.unusedVariables false

theorem wideL_at (l : List UInt8) (i : Nat) (h : i < l.length) : (wideL l 8)[i]? = some (.int .u8 (l[i].toNat : Int)) := by
  unfold wideL
  rw [List.getElem?_append_left (by rw [Lib.byteCells_length]; exact h)]
  simp [Lib.byteCells, h]
theorem wideL_77 (l : List UInt8) (i : Nat) (h : l.length ≤ i) (h2 : i < l.length + 8) : (wideL l 8)[i]? = some (.int .u8 77) := by
  unfold wideL
  rw [List.getElem?_append_right (by rw [Lib.byteCells_length]; exact h), Lib.byteCells_length, List.getElem?_append_left (by simp; omega), List.getElem?_replicate, if_pos (by omega)]
/-- The lent bytes, i of them written over. -/
def overL (l : List UInt8) (i : Nat) : List Value := List.replicate i (.int .u8 78) ++ (wideL l 8).drop i
theorem overL_len (l : List UInt8) (i : Nat) (h : i ≤ l.length + 8) : (overL l i).length = l.length + 8 := by
  unfold overL; rw [List.length_append, List.length_replicate, List.length_drop, wideL_len l 8 (by omega)]; omega
theorem overL_set (l : List UInt8) (i : Nat) (h : i < l.length + 8) : (overL l i).set i (.int .u8 78) = overL l (i + 1) := by
  unfold overL
  have hl := wideL_len l 8 (by omega)
  rw [List.set_append_right _ _ (by simp), List.length_replicate, Nat.sub_self, List.drop_eq_getElem_cons (by omega), List.set_cons_zero, List.replicate_succ' (n := i)]
  simp
theorem overL_get (l : List UInt8) (i : Nat) (h : i < l.length + 8) : (overL l i)[i]? = (wideL l 8)[i]? := by
  unfold overL
  rw [List.getElem?_append_right (by simp), List.length_replicate, Nat.sub_self, List.getElem?_drop]
  simp

set_option maxHeartbeats 1000000 in
set_option maxRecDepth 100000 in
theorem still_lent (s : ByteArray) (g : Nat) (w : World) (hs : s.size ≤ 2000000) (hh : w.heap[g]? = some (.cells (wideL s.data.toList 8).toArray 5 (0, 0))) :
    Calls Tryz.prog 79 #[.slice (some ⟨g, 0, none⟩) s.size (s.size + 8), .string s] w fun e w' => e = .returned (.bool true) ∧ Kp [g] w w' := by
  have hl : s.data.toList.length = s.size := by simp
  have hcv : (convert 109 9 (.slice (some ⟨g, 0, none⟩) s.size (s.size + 8))).run Tryz.prog w = .ok (.string s) w := by
    refine Lib.run_convert_whole (P := Tryz.prog) w 109 5 9 Tryz.underlying109 Tryz.underlying5 Tryz.underlying9 g 0 s (fun i hi => ?_) (s.size + 8)
    rw [Nat.zero_add, cell_of_row w g i _ 5 (0, 0) hh]
    have := wideL_at s.data.toList i (by omega)
    simp only [List.getElem?_toArray]
    rw [this]; rfl
  have HL := hide hl
  have HH : Hid (w.heap[g]? = some (.cells (overL s.data.toList 0).toArray 5 (0, 0))) := by show _ = _; rw [hh]; simp [overL]
  clear hl hh
  go_enter Tryz.func79, Tryz.ntmps79
  go_wp2_with fail
  clear hcv
  go_loopw [5, 7] (fun ov iv wr => ∃ i : Nat, i ≤ s.size + 8 ∧ iv = .int .i64 i ∧ ov = .bool true ∧ Hid (wr.heap[g]? = some (.cells (overL s.data.toList i).toArray 5 (0, 0))) ∧ Hid (Kp [g] w wr)) (fun _ iv _ => s.size + 8 - (intOf iv).toNat)
  case atStart => exact ⟨0, by omega, rfl, rfl, HH, Pak.Kp.refl _ _⟩
  case round =>
    obtain ⟨i, hi, rfl, rfl, hh, hk⟩ := hrel
    by_cases hlt : i < s.size + 8
    · have hget := overL_get s.data.toList i (by rw [HL.out]; exact hlt)
      have hcell : wr.cell? ⟨g, i, none⟩ = (wideL s.data.toList 8)[i]? := by
        rw [cell_of_row wr g i _ 5 (0, 0) hh.out]; simp only [List.getElem?_toArray]; exact hget
      have hf : wr.frozen? ⟨g, i, none⟩ = false := by simp [World.frozen?, hh.out]
      have hset := hide (overL_set s.data.toList i (by rw [HL.out]; exact hlt))
      have h1 : (i : Int) < (s.size : Int) + 8 := by omega
      have h0 : (0 : Int) ≤ (i : Int) := by omega
      clear hget
      have HEND : Hid (∀ w', w' = wr → (w'.setCell ⟨g, i, none⟩ (.int .u8 78)).heap[g]? = some (.cells (overL s.data.toList (i + 1)).toArray 5 (0, 0)) ∧ Kp [g] w (w'.setCell ⟨g, i, none⟩ (.int .u8 78))) := by
        intro w' e; subst e
        refine ⟨?_, hk.out.setCell (p := ⟨g, i, none⟩) (.inl (by simp)) _⟩
        rw [heap_setCell_same w' g i _ 5 _ hh.out, ← hset.out]; simp
      by_cases hin : i < s.size
      · have h2 : (i : Int) < (s.size : Int) := by omega
        rw [wideL_at s.data.toList i (by rw [HL.out]; exact hin)] at hcell
        go_wp2_with fail
        exact ⟨⟨i + 1, by omega, by go_num, rfl, (HEND.out wr rfl).1, (HEND.out wr rfl).2⟩, by simp [intOf]; omega⟩
      · have h2 : decide ((i : Int) < (s.size : Int)) = false := by simp; omega
        rw [wideL_77 s.data.toList i (by rw [HL.out]; omega) (by rw [HL.out]; exact hlt)] at hcell
        go_wp2_with fail
        exact ⟨⟨i + 1, by omega, by go_num, rfl, (HEND.out wr rfl).1, (HEND.out wr rfl).2⟩, by simp [intOf]; omega⟩
    · go_wp2_with fail
      go_ret
      exact ⟨rfl, hk.out⟩
end Go.Proofs.YtbkepgmgebmceaaGreatDoor.Own
