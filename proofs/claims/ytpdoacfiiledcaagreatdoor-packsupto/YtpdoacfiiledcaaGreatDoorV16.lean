import Derived.Test.YtpdoacfiiledcaaGreatDoorV15
import Derived.Test.YtpdoacfiiledcaaGreatDoorV13
import Derived.Lib.BufferWrite

namespace Go.Proofs.YtpdoacfiiledcaaGreatDoor.Own
open Go.RowKit Go.Proofs.YtpdoacfiiledcaaGreatDoor
open Go.Proofs.YtpdoacfiiledcaaGreatDoor.Spl
set_option linter.unusedVariables false

theorem make_wide (c : Nat) (w : World) (hc : c ≤ 4000000) : (Instr.makeSlice 112 (.int .i64 c) (.int .i64 c)).run Tryz.prog w = .ok (.slice (some ⟨w.heap.size, 0, none⟩) c c) (w.alloc (.cells (Array.replicate c (.int .u8 0)) 5)) := by
  obtain ⟨i0, hi, hz0, hz1, hz2⟩ := info_parts Tryz.info5o
  have := run_make (P := Tryz.prog) w 112 5 i0 (.int .u8 0) Tryz.underlying112 hi hz0 .i64 .i64 c c (by omega) (by omega) (by rw [hz2]; omega) (by omega)
  rw [hz1, Nat.mul_one] at this
  simp only [Int.toNat_natCast] at this
  rw [this, show (Value.int .u8 0).cells = #[.int .u8 0] from rfl, Pak.made_one]

/-- Bytes with eight places behind, of which j have 77. -/
def wideL (l : List UInt8) (j : Nat) : List Value := Lib.byteCells l ++ (List.replicate j (.int .u8 77) ++ List.replicate (8 - j) (.int .u8 0))
theorem wideL_len (l : List UInt8) (j : Nat) (h : j ≤ 8) : (wideL l j).length = l.length + 8 := by
  unfold wideL; rw [List.length_append, Lib.byteCells_length, List.length_append]; simp; omega
theorem wideL_set (l : List UInt8) (j : Nat) (h : j < 8) : (wideL l j).set (l.length + j) (.int .u8 77) = wideL l (j + 1) := by
  unfold wideL
  have hb := Lib.byteCells_length l
  rw [List.set_append_right _ _ (by rw [hb]; omega), hb, show l.length + j - l.length = j by omega, List.set_append_right _ _ (by simp), List.length_replicate, Nat.sub_self, show 8 - j = (8 - (j + 1)) + 1 by omega, List.replicate_succ, List.set_cons_zero, List.replicate_succ' (n := j)]
  simp
theorem copy_wide (s : ByteArray) (w : World) (ty : TypeId) : ∃ W, (Builtin.copy_ #[112, 9] ty #[.slice (some ⟨w.heap.size, 0, none⟩) (s.size + 8) (s.size + 8), .string s]).run Tryz.prog (w.alloc (.cells (Array.replicate (s.size + 8) (.int .u8 0)) 5)) = .ok (.int .i64 (s.size : Int)) W
    ∧ W.heap[w.heap.size]? = some (.cells (wideL s.data.toList 0).toArray 5 (0, 0)) ∧ Kp [] w W := by
  have hg := heap_alloc_new w (.cells (Array.replicate (s.size + 8) (.int .u8 0)) 5)
  have hr := Lib.run_copy_row_string (P := Tryz.prog) (w.alloc (.cells (Array.replicate (s.size + 8) (.int .u8 0)) 5)) 112 9 ty 5 w.heap.size 0 (s.size + 8) (s.size + 8) s _ 5 Tryz.underlying112 (by kernel_rfl) hg (by omega) (by simp)
  refine ⟨_, hr, ?_, ?_⟩
  · have hl : s.data.toList.length = s.size := by simp
    simp only [World.setRow]
    rw [Array.getElem?_modify, if_pos rfl, hg]
    simp [wideL]
  · refine ⟨rfl, rfl, rfl, by simp [World.setRow], fun k hk _ => ?_⟩
    simp only [World.setRow]
    rw [Array.getElem?_modify, if_neg (by omega)]
    exact Below.heap_alloc w _ k hk

set_option maxHeartbeats 1000000 in
set_option maxRecDepth 100000 in
theorem wide_any (s : ByteArray) (w : World) (hs : s.size ≤ 2000000) :
    Calls Tryz.prog 82 #[.string s] w fun e w' => e = .returned (.slice (some ⟨w.heap.size, 0, none⟩) s.size (s.size + 8)) ∧ w'.heap[w.heap.size]? = some (.cells (wideL s.data.toList 8).toArray 5 (0, 0)) ∧ Kp [] w w' := by
  have hmk : ∀ w', (Instr.makeSlice 112 (.int .i64 ((s.size : Int) + 8)) (.int .i64 ((s.size : Int) + 8))).run Tryz.prog w' = .ok (.slice (some ⟨w'.heap.size, 0, none⟩) (s.size + 8) (s.size + 8)) (w'.alloc (.cells (Array.replicate (s.size + 8) (.int .u8 0)) 5)) := fun w' => by
    have := make_wide (s.size + 8) w' (by omega)
    rw [show ((s.size + 8 : Nat) : Int) = (s.size : Int) + 8 by omega] at this
    exact this
  obtain ⟨W, hcp, hh, hkW⟩ := copy_wide s w 3
  have hl : s.data.toList.length = s.size := by simp
  have HL := hide hl
  have HH := hide hh
  have HK := hide hkW
  have hzW : w.heap.size < W.heap.size := lt_of_heap hh
  clear hl hh hkW
  go_enter Tryz.func82, Tryz.ntmps82
  go_wp2_with fail
  clear hmk hcp
  go_loopw [4] (fun iv wr => ∃ j : Nat, j ≤ 8 ∧ iv = .int .i64 ((s.size + j : Nat) : Int) ∧ Hid (wr.heap[w.heap.size]? = some (.cells (wideL s.data.toList j).toArray 5 (0, 0))) ∧ Hid (Kp [] w wr)) (fun iv _ => s.size + 8 - (intOf iv).toNat)
  case atStart => exact ⟨0, by omega, rfl, HH, HK⟩
  case round =>
    obtain ⟨j, hj, rfl, hh, hk⟩ := hrel
    by_cases hlt : j < 8
    · have hlen := wideL_len s.data.toList j (by omega)
      rw [HL.out] at hlen
      obtain ⟨x, hx⟩ : ∃ x, wr.cell? ⟨w.heap.size, s.size + j, none⟩ = some x := ⟨_, by rw [cell_of_row wr w.heap.size (s.size + j) _ 5 (0, 0) hh.out]; simp only [List.getElem?_toArray]; rw [List.getElem?_eq_getElem (by omega)]⟩
      have hf : wr.frozen? ⟨w.heap.size, s.size + j, none⟩ = false := by simp [World.frozen?, hh.out]
      have hset := hide (wideL_set s.data.toList j hlt)
      have h1 : (s.size : Int) + (j : Int) < (s.size : Int) + 8 := by omega
      have h0 : (0 : Int) ≤ (s.size : Int) + (j : Int) := by omega
      have h2 : ((s.size : Int) + (j : Int)).toNat = s.size + j := by omega
      rw [show ((s.size + j : Nat) : Int) = (s.size : Int) + (j : Int) by omega]
      clear hlen
      go_wp2_with fail
      go_roundw
      case rel =>
        refine ⟨j + 1, by omega, by go_num, ?_, hk.out.setCell (p := ⟨w.heap.size, s.size + j, none⟩) (.inr (Nat.le_refl _)) _⟩
        show _ = _
        rw [heap_setCell_same wr w.heap.size (s.size + j) _ 5 _ hh.out, ← hset.out, HL.out]
        simp
      case measure => simp [intOf]; omega
    · have ej : j = 8 := by omega
      subst ej
      go_wp2_with fail
      go_ret
      exact ⟨rfl, hh.out, hk.out⟩
end Go.Proofs.YtpdoacfiiledcaaGreatDoor.Own

namespace Go.Proofs.YtpdoacfiiledcaaGreatDoor.Own
open Go.RowKit Go.Proofs.YtpdoacfiiledcaaGreatDoor
open Go.Proofs.YtpdoacfiiledcaaGreatDoor.Spl
set_option linter.unusedVariables false

theorem wideL_at (l : List UInt8) (i : Nat) (h : i < l.length) : (wideL l 8)[i]? = some (.int .u8 (l[i].toNat : Int)) := by
  unfold wideL
  rw [List.getElem?_append_left (by rw [Lib.byteCells_length]; exact h)]
  simp [Lib.byteCells, h]
theorem wideL_77 (l : List UInt8) (i : Nat) (h : l.length ≤ i) (h2 : i < l.length + 8) : (wideL l 8)[i]? = some (.int .u8 77) := by
  unfold wideL
  rw [List.getElem?_append_right (by rw [Lib.byteCells_length]; exact h), Lib.byteCells_length, List.getElem?_append_left (by simp; omega), List.getElem?_replicate, if_pos (by omega)]
/-- The lent bytes, i of them written over. -/
def overL (l : List UInt8) (i : Nat) : List Value := List.replicate i (.int .u8 78) ++ (wideL l 8).drop i
theorem overL_len (l : List UInt8) (i : Nat) (h : i ≤ l.length + 8) : (overL l i).length = l.length + 8 := by
  unfold overL; rw [List.length_append, List.length_replicate, List.length_drop, wideL_len l 8 (by omega)]; omega
theorem overL_set (l : List UInt8) (i : Nat) (h : i < l.length + 8) : (overL l i).set i (.int .u8 78) = overL l (i + 1) := by
  unfold overL
  have hl := wideL_len l 8 (by omega)
  rw [List.set_append_right _ _ (by simp), List.length_replicate, Nat.sub_self, List.drop_eq_getElem_cons (by omega), List.set_cons_zero, List.replicate_succ' (n := i)]
  simp
theorem overL_get (l : List UInt8) (i : Nat) (h : i < l.length + 8) : (overL l i)[i]? = (wideL l 8)[i]? := by
  unfold overL
  rw [List.getElem?_append_right (by simp), List.length_replicate, Nat.sub_self, List.getElem?_drop]
  simp

set_option maxHeartbeats 1000000 in
set_option maxRecDepth 100000 in
theorem still_lent (s : ByteArray) (g : Nat) (w : World) (hs : s.size ≤ 2000000) (hh : w.heap[g]? = some (.cells (wideL s.data.toList 8).toArray 5 (0, 0))) :
    Calls Tryz.prog 84 #[.slice (some ⟨g, 0, none⟩) s.size (s.size + 8), .string s] w fun e w' => e = .returned (.bool true) ∧ Kp [g] w w' := by
  have hl : s.data.toList.length = s.size := by simp
  have hcv : (convert 112 9 (.slice (some ⟨g, 0, none⟩) s.size (s.size + 8))).run Tryz.prog w = .ok (.string s) w := by
    refine Lib.run_convert_whole (P := Tryz.prog) w 112 5 9 Tryz.underlying112 Tryz.underlying5 Tryz.underlying9 g 0 s (fun i hi => ?_) (s.size + 8)
    rw [Nat.zero_add, cell_of_row w g i _ 5 (0, 0) hh]
    have := wideL_at s.data.toList i (by omega)
    simp only [List.getElem?_toArray]
    rw [this]; rfl
  have HL := hide hl
  have HH : Hid (w.heap[g]? = some (.cells (overL s.data.toList 0).toArray 5 (0, 0))) := by show _ = _; rw [hh]; simp [overL]
  clear hl hh
  go_enter Tryz.func84, Tryz.ntmps84
  go_wp2_with fail
  clear hcv
  go_loopw [5, 7] (fun ov iv wr => ∃ i : Nat, i ≤ s.size + 8 ∧ iv = .int .i64 i ∧ ov = .bool true ∧ Hid (wr.heap[g]? = some (.cells (overL s.data.toList i).toArray 5 (0, 0))) ∧ Hid (Kp [g] w wr)) (fun _ iv _ => s.size + 8 - (intOf iv).toNat)
  case atStart => exact ⟨0, by omega, rfl, rfl, HH, Pak.Kp.refl _ _⟩
  case round =>
    obtain ⟨i, hi, rfl, rfl, hh, hk⟩ := hrel
    by_cases hlt : i < s.size + 8
    · have hget := overL_get s.data.toList i (by rw [HL.out]; exact hlt)
      have hcell : wr.cell? ⟨g, i, none⟩ = (wideL s.data.toList 8)[i]? := by
        rw [cell_of_row wr g i _ 5 (0, 0) hh.out]; simp only [List.getElem?_toArray]; exact hget
      have hf : wr.frozen? ⟨g, i, none⟩ = false := by simp [World.frozen?, hh.out]
      have hset := hide (overL_set s.data.toList i (by rw [HL.out]; exact hlt))
      have h1 : (i : Int) < (s.size : Int) + 8 := by omega
      have h0 : (0 : Int) ≤ (i : Int) := by omega
      clear hget
      have HEND : Hid (∀ w', w' = wr → (w'.setCell ⟨g, i, none⟩ (.int .u8 78)).heap[g]? = some (.cells (overL s.data.toList (i + 1)).toArray 5 (0, 0)) ∧ Kp [g] w (w'.setCell ⟨g, i, none⟩ (.int .u8 78))) := by
        intro w' e; subst e
        refine ⟨?_, hk.out.setCell (p := ⟨g, i, none⟩) (.inl (by simp)) _⟩
        rw [heap_setCell_same w' g i _ 5 _ hh.out, ← hset.out]; simp
      by_cases hin : i < s.size
      · have h2 : (i : Int) < (s.size : Int) := by omega
        rw [wideL_at s.data.toList i (by rw [HL.out]; exact hin)] at hcell
        go_wp2_with fail
        exact ⟨⟨i + 1, by omega, by go_num, rfl, (HEND.out wr rfl).1, (HEND.out wr rfl).2⟩, by simp [intOf]; omega⟩
      · have h2 : decide ((i : Int) < (s.size : Int)) = false := by simp; omega
        rw [wideL_77 s.data.toList i (by rw [HL.out]; omega) (by rw [HL.out]; exact hlt)] at hcell
        go_wp2_with fail
        exact ⟨⟨i + 1, by omega, by go_num, rfl, (HEND.out wr rfl).1, (HEND.out wr rfl).2⟩, by simp [intOf]; omega⟩
    · go_wp2_with fail
      go_ret
      exact ⟨rfl, hk.out⟩
end Go.Proofs.YtpdoacfiiledcaaGreatDoor.Own
