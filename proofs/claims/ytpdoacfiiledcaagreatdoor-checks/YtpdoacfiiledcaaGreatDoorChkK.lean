import Derived.Test.YtpdoacfiiledcaaGreatDoorChkJ
namespace Go.Proofs.YtpdoacfiiledcaaGreatDoor
open Go.RowKit ChkM
set_option linter.unusedVariables false

theorem joins_le (s : St) (c : UInt8) : (joinsA s c).at_ ≤ 4 ∧ (joinsA s c).op.length ≤ s.op.length := by
  unfold joinsA
  split
  · exact ⟨Nat.zero_le _, Nat.le_refl _⟩
  · split
    · exact ⟨by show 2 ≤ 4; omega, by show s.op.tail.length ≤ _; simp⟩
    · exact ⟨Nat.le_refl _, Nat.le_refl _⟩
theorem step_le (s : St) (c : UInt8) (h : s.at_ ≤ 4) : (stepA s c).at_ ≤ 4 ∧ (stepA s c).op.length ≤ s.op.length + 1 := by
  have hj := joins_le s c
  unfold stepA
  split
  · unfold partA
    repeat' split
    all_goals (constructor <;> simp <;> omega)
  · repeat' split
    all_goals first | exact ⟨hj.1, by omega⟩ | exact ⟨h, Nat.le_succ _⟩ | exact ⟨by show 2 ≤ 4; omega, Nat.le_succ _⟩ | exact ⟨by show 4 ≤ 4; omega, Nat.le_succ _⟩

theorem refAns_dead {l r : List UInt8} {s : St} (h : runA ⟨0, 0, 0, []⟩ l = (some r, s)) : refAns l = (8, l.length - r.length) := by unfold refAns; rw [h]
theorem refAns_yes {l : List UInt8} {s : St} (h : runA ⟨0, 0, 0, []⟩ l = (none, s)) (h2 : (s.at_ = 1 ∨ s.at_ = 2) ∧ s.op = []) : refAns l = (0, 0) := by unfold refAns; rw [h]; simp only; rw [if_pos h2]
theorem refAns_no {l : List UInt8} {s : St} (h : runA ⟨0, 0, 0, []⟩ l = (none, s)) (h2 : ¬ ((s.at_ = 1 ∨ s.at_ = 2) ∧ s.op = [])) : refAns l = (8, l.length) := by unfold refAns; rw [h]; simp only; rw [if_neg h2]

set_option maxHeartbeats 400000 in
theorem rcheck_long (s : ByteArray) (w : World) (hs : 60 < s.size) :
    Calls Tryz.prog 76 #[.string s] w fun e w' => e = .returned (.tuple #[.int .i64 4, .int .i64 0]) ∧ w' = w := by
  go_enter Tryz.func76, Tryz.ntmps76
  go_wp2_with fail
  go_ret2
  exact ⟨rfl, rfl⟩

theorem stn_new (w : World) : Stn (w.alloc (.cells #[.int .i64 0, .int .i64 0, .int .i64 0, .slice none 0 0] 258)) w.heap.size ⟨0, 0, 0, []⟩ (.slice none 0 0) :=
  ⟨by rw [World.cell?_alloc_at _ _ _ _ rfl]; rfl, by rw [World.cell?_alloc_at _ _ _ _ rfl]; rfl, by rw [World.cell?_alloc_at _ _ _ _ rfl]; rfl, by rw [World.cell?_alloc_at _ _ _ _ rfl]; rfl,
    World.ownsRow_nil _ _ _ _, fun j => World.frozen?_alloc_at _ _ _ _ rfl, by simp, by simp, by simp, by simp⟩

set_option maxHeartbeats 400000 in
set_option maxRecDepth 100000 in
theorem rcheck_ok (s : ByteArray) (w : World) (hs : s.size ≤ 60) :
    Calls Tryz.prog 76 #[.string s] w fun e w' => ∃ (a : Int) (k : Nat), e = .returned (.tuple #[.int .i64 a, .int .i64 k]) ∧ Hid (refAns s.data.toList = (a, k)) ∧ Below w.heap.size w w' := by
  have hl : Hid (s.data.toList.length = s.size) := by show _ = _; simp
  go_enter Tryz.func76, Tryz.ntmps76
  go_wp2_with fail
  go_loopw [5] (fun i wr => ∃ (k : Nat) (st : St) (v : Value), k ≤ s.size ∧ i = .int .i64 k ∧ Stn wr w.heap.size st v ∧ st.at_ ≤ 3 ∧ st.op.length ≤ k ∧ Hid (runA ⟨0, 0, 0, []⟩ s.data.toList = runA st (s.data.toList.drop k)) ∧ Below w.heap.size w wr ∧ w.heap.size < wr.heap.size) (fun i _ => s.size - (intOf i).toNat)
  case atStart => exact ⟨0, ⟨0, 0, 0, []⟩, _, Nat.zero_le _, rfl, stn_new w, by decide, by decide, rfl, (Below.refl _ _).alloc (Nat.le_refl _) _, by simp⟩
  case round =>
    obtain ⟨k, st, v, hk, rfl, hS, ha, ho, hR, hb, hz⟩ := hrel
    by_cases hlt : k < s.size
    · have hd := hide (drop_at s k hlt)
      replace hS := hide hS
      go_wp2_with fail
      refine (step_any st v s[k] w.heap.size _ hS.out (by omega) hz (by omega)).mono ?_
      rintro e w1 ⟨rfl, ⟨v1, hS1⟩, hb1⟩
      have hle := step_le st s[k] (by omega)
      have hz1 := hb1.size
      have hc0 := hS1.c0
      by_cases h4 : (stepA st s[k]).at_ = 4
      · have hq : (((stepA st s[k]).at_ : Int) == 4) = true := by rw [beq_iff_eq]; omega
        have HF : Hid (refAns s.data.toList = (8, k)) := by
          show _ = _
          rw [refAns_dead (r := s.data.toList.drop k) (s := stepA st s[k]) (by rw [hR.out, hd.out]; exact run_dead rfl h4)]
          rw [List.length_drop, hl.out, show s.size - (s.size - k) = k by omega]
        clear h4 hle hS1
        go_wp2_with fail
        go_ret2
        exact ⟨8, k, rfl, HF, hb.trans hb1⟩
      · have hq : (((stepA st s[k]).at_ : Int) == 4) = false := by rw [beq_eq_false_iff_ne]; omega
        have HR : Hid (runA ⟨0, 0, 0, []⟩ s.data.toList = runA (stepA st s[k]) (s.data.toList.drop (k + 1))) := by
          show _ = _
          rw [hR.out, hd.out]; exact run_live rfl h4
        replace hS1 := hide hS1
        go_wp2_with fail
        go_roundw
        case rel => exact ⟨k + 1, stepA st s[k], v1, by omega, by go_num, hS1.out, by omega, by omega, HR, hb.trans hb1, by omega⟩
        case measure => simp [intOf]; omega
    · have he : Hid (runA ⟨0, 0, 0, []⟩ s.data.toList = (none, st)) := by
        show _ = _
        rw [hR.out, drop_end s k hlt]; rfl
      have hc0 := hS.c0
      have hc3 := hS.c3
      obtain ⟨a, cap, hv⟩ : ∃ a cap, v = .slice a st.op.length cap := by
        rcases hS.own.2 with ⟨rfl, h0⟩ | ⟨g, cap, cur, rfl, _⟩
        · exact ⟨none, 0, by rw [h0]⟩
        · exact ⟨_, _, rfl⟩
      rw [hv] at hc3
      by_cases hacc : (st.at_ = 1 ∨ st.at_ = 2) ∧ st.op = []
      · have HF : Hid (refAns s.data.toList = (0, 0)) := refAns_yes he.out hacc
        have ho0 : st.op.length = 0 := by rw [hacc.2]; rfl
        rw [ho0] at hc3
        clear hS ho0
        rcases hacc.1 with h1 | h1
        · rw [h1] at hc0
          clear hacc h1
          go_wp2_with fail
          go_ret2
          exact ⟨0, 0, rfl, HF, hb⟩
        · rw [h1] at hc0
          clear hacc h1
          go_wp2_with fail
          go_ret2
          exact ⟨0, 0, rfl, HF, hb⟩
      · have HF : Hid (refAns s.data.toList = (8, s.size)) := by
          show _ = _
          rw [refAns_no he.out hacc, hl.out]
        clear hS
        by_cases h1 : st.at_ = 1
        · have h0 : ((st.op.length : Int) == 0) = false := by
            rw [beq_eq_false_iff_ne]; intro e; exact hacc ⟨Or.inl h1, List.length_eq_zero_iff.1 (by omega)⟩
          rw [h1] at hc0
          clear hacc h1
          go_wp2_with fail
          go_ret2
          exact ⟨8, s.size, rfl, HF, hb⟩
        · by_cases h2 : st.at_ = 2
          · have h0 : ((st.op.length : Int) == 0) = false := by
              rw [beq_eq_false_iff_ne]; intro e; exact hacc ⟨Or.inr h2, List.length_eq_zero_iff.1 (by omega)⟩
            rw [h2] at hc0
            clear hacc h1 h2
            go_wp2_with fail
            go_ret2
            exact ⟨8, s.size, rfl, HF, hb⟩
          · have q1 : ((st.at_ : Int) == 1) = false := by rw [beq_eq_false_iff_ne]; omega
            have q2 : ((st.at_ : Int) == 2) = false := by rw [beq_eq_false_iff_ne]; omega
            clear hacc
            go_wp2_with fail
            go_ret2
            exact ⟨8, s.size, rfl, HF, hb⟩
end Go.Proofs.YtpdoacfiiledcaaGreatDoor
