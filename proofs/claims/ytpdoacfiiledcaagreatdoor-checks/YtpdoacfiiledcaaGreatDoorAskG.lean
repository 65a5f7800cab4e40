import Derived.Test.YtpdoacfiiledcaaGreatDoorAskF
namespace Go.Proofs.YtpdoacfiiledcaaGreatDoor
open Go.RowKit ChkM
open Pak (Kp)
set_option linter.unusedVariables false

/-- What readQuery gives. -/
def AskPost (ans : Int × Nat) (w : World) (e : Ending) (w' : World) : Prop :=
  ∃ v : Value, e = .returned (.tuple #[v, .int .i64 ans.1, .int .i64 (ans.2 : Int)]) ∧ Qv v ∧ Kp [] w w'
/-- The answer of Check to a text of whatever length. -/
def checkAns (s : ByteArray) : Int × Nat := if 60 < s.size then (4, 0) else codeAns s.data.toList

set_option maxHeartbeats 1000000 in
set_option maxRecDepth 100000 in
theorem askq_any (s : ByteArray) (w : World) : Calls Tryz.prog 58 #[.string s] w (AskPost (checkAns s) w) := by
  have hr := heap_alloc_new w (.cells nilQ 139)
  by_cases hl : 60 < s.size
  · have HE : Hid (checkAns s = (4, 0)) := by show _ = _; unfold checkAns; rw [if_pos hl]
    have HR := hide hr
    clear hr
    go_enter Tryz.func58, Tryz.ntmps58
    go_wp2_with fail
    refine ret_query3 (R0 := w.heap.size) rfl (heap_alloc_new w _) rfl rfl ?_
    rw [HE.out]
    exact ⟨_, rfl, ⟨0, none, 0, 0, none, 0, 0, rfl⟩, (Kp.refl [] w).alloc _⟩
  · have HE : Hid (checkAns s = codeAns s.data.toList) := by show _ = _; unfold checkAns; rw [if_neg hl]
    have hls : s.data.toList.length = s.size := by simp
    have HL := hide hls
    have HR := hide hr
    clear hr hls
    go_enter Tryz.func58, Tryz.ntmps58
    go_wp2_with fail
    refine (readq_any s _ (by omega)).mono ?_
    rintro e w1 ⟨v, b, k, rfl, ⟨kd1, a1, n1, c1, a2, n2, c2, rfl⟩, hb, hk, hks, hK⟩
    have r1 : Bx w1 w.heap.size 0 (.slice none 0 0) (.slice none 0 0) := hK.heap HR.out (by simp)
    have K1 : Hid (Kp [] w w1) := ((Kp.refl [] w).alloc _).next hK
    have HR1 := hide r1
    have hlt : w.heap.size < w1.heap.size := (Array.getElem?_eq_some_iff.1 r1).1
    obtain ⟨x0, x1, x2, y0, y1, y2⟩ := bx_cells r1
    obtain ⟨X0, X1, X2, Y0, Y1, Y2⟩ := bx_cells_past r1
    clear r1 hK HR
    cases b
    · have hf : Hid (codeAns s.data.toList = (8, k)) := by
        show _ = _
        unfold codeAns
        have h2 := of_decide_eq_false hb.out.symm
        rw [if_neg h2, HL.out, hk.out]
      clear hb hk
      go_wp2_with fail
      refine ret_query3 rfl (bx_past (bx_store3 HR1.out _ _ _) _) rfl rfl ?_
      rw [HE.out, hf.out]
      exact ⟨_, rfl, ⟨0, none, 0, 0, none, 0, 0, rfl⟩, K1.out.trans ((kp_store3 _ _ _ _ _).alloc _) (fun x hx => by simp at hx; subst hx; exact .inr (Nat.le_refl _))⟩
    · have hf : Hid (codeAns s.data.toList = (0, 0)) := by
        show _ = _
        unfold codeAns
        have h2 := of_decide_eq_true hb.out.symm
        rw [if_pos h2]
      clear hb hk
      go_wp2_with fail
      refine ret_query3 rfl (bx_past (bx_store3 HR1.out _ _ _) _) rfl rfl ?_
      rw [HE.out, hf.out]
      exact ⟨_, rfl, ⟨kd1, a1, n1, c1, a2, n2, c2, rfl⟩, K1.out.trans ((kp_store3 _ _ _ _ _).alloc _) (fun x hx => by simp at hx; subst hx; exact .inr (Nat.le_refl _))⟩

set_option maxHeartbeats 1000000 in
set_option maxRecDepth 100000 in
theorem check_any (s : ByteArray) (w : World) :
    Calls Tryz.prog 75 #[.string s] w fun e w' => e = .returned (.tuple #[.int .i64 (checkAns s).1, .int .i64 ((checkAns s).2 : Int)]) ∧ Below w.heap.size w w' := by
  go_enter Tryz.func75, Tryz.ntmps75
  go_wp2_with fail
  refine (askq_any s _).mono ?_
  rintro e w1 ⟨v, rfl, ⟨kd1, a1, n1, c1, a2, n2, c2, rfl⟩, hK⟩
  have HK := hide hK
  clear hK
  go_wp2_with fail
  go_ret2
  exact ⟨rfl, (HK.out.alloc _).below (Nat.le_refl _) (by simp)⟩
theorem check_long (s : ByteArray) (w : World) (hs : 60 < s.size) :
    Calls Tryz.prog 75 #[.string s] w fun e w' => e = .returned (.tuple #[.int .i64 4, .int .i64 0]) ∧ Below w.heap.size w w' := by
  have h := check_any s w
  rw [show checkAns s = (4, 0) by unfold checkAns; rw [if_pos hs]] at h
  exact h
theorem code_le (l : List UInt8) : (codeAns l).2 ≤ l.length := by
  unfold codeAns
  split
  · exact Nat.zero_le _
  · exact Nat.sub_le _ _
theorem check_ok (s : ByteArray) (w : World) (hs : s.size ≤ 60) :
    Calls Tryz.prog 75 #[.string s] w fun e w' => ∃ (a : Int) (k : Nat), e = .returned (.tuple #[.int .i64 a, .int .i64 k]) ∧ Hid (codeAns s.data.toList = (a, k)) ∧ k ≤ s.size ∧ Below w.heap.size w w' := by
  have h := check_any s w
  rw [show checkAns s = codeAns s.data.toList by unfold checkAns; rw [if_neg (by omega)]] at h
  refine h.mono ?_
  rintro e w' ⟨rfl, hb⟩
  have hl : s.data.toList.length = s.size := by simp
  have := code_le s.data.toList
  exact ⟨_, _, rfl, rfl, by omega, hb⟩
end Go.Proofs.YtpdoacfiiledcaaGreatDoor
