import Derived.Test.YtcobkpapimnjaaaGreatDoorChkE
namespace Go.Proofs.YtcobkpapimnjaaaGreatDoor
open Go.RowKit ChkM
set_option linter.unusedVariables false

theorem query_zero (s : ByteArray) (B : Nat) (w : World) (hs : s.size ≤ 1000) (hp : Pa w B s 0) :
    Calls Tryz.prog 132 #[.pointer (some ⟨B, 0, none⟩), .int .i64 0] w (Res (psTop s.data.toList) B s 0 w) := by
  have h := query_any (3 * s.size + 3) s 0 B 0 w hs (Nat.zero_le _) (by omega) (by omega) hp
  have e : ps (3 * s.size + 3) 2 0 (s.data.toList.drop 0) = psTop s.data.toList := by
    unfold psTop
    rw [show s.data.toList.length = s.size by simp]; rfl
  rw [e, show ((0 : Nat) : Int) = 0 from rfl] at h
  exact h
theorem pa_new (s : ByteArray) (w : World) : Pa (w.alloc (.cells #[.string s, .int .i64 0] 193)) w.heap.size s 0 :=
  ⟨by rw [World.cell?_alloc_at _ _ _ _ rfl]; rfl, by rw [World.cell?_alloc_at _ _ _ _ rfl]; rfl, World.frozen?_alloc_at _ _ _ _ rfl⟩
theorem below_new {w w' : World} {o : Obj} (h : (w.alloc o).grownBy w' (some w.heap.size)) : Below w.heap.size w w' :=
  ((Below.refl _ _).alloc (Nat.le_refl _) o).grown h (by simp) (fun k hk => by injection hk with hk; omega)
theorem rest_nil {s : ByteArray} {r : List UInt8} {k : Nat} (h : r = s.data.toList.drop k) (hk : k ≤ s.size) : (r = [] ↔ k = s.size) ∧ s.size - r.length = k := by
  have hl : r.length = s.size - k := by rw [h, List.length_drop]; simp
  refine ⟨⟨fun e => ?_, fun e => ?_⟩, by omega⟩
  · rw [e] at hl; simp at hl; omega
  · exact List.length_eq_zero_iff.1 (by omega)

set_option maxHeartbeats 400000 in
set_option maxRecDepth 100000 in
theorem ask_any (s : ByteArray) (w : World) (hs : s.size ≤ 1000) :
    Calls Tryz.prog 88 #[.string s] w fun e w' => ∃ (b : Bool) (k : Nat), e = .returned (.tuple #[.bool b, .int .i64 k]) ∧ Hid (b = decide ((psTop s.data.toList).1 = true ∧ (psTop s.data.toList).2 = [])) ∧ Hid (k = s.size - (psTop s.data.toList).2.length) ∧ k ≤ s.size ∧ Below w.heap.size w w' := by
  go_enter Tryz.func88, Tryz.ntmps88
  go_wp2_with fail
  refine (query_zero s _ _ hs (pa_new s w)).mono ?_
  rintro e w1 ⟨k, rfl, h1, h2, hr, hP, hg⟩
  have hb := below_new hg
  have hnil := hide (rest_nil hr h2)
  have hp2 := hP.2.1
  clear hr hg hP
  obtain ⟨ok, hok⟩ : ∃ ok, (psTop s.data.toList).1 = ok := ⟨_, rfl⟩
  rw [hok]
  cases ok
  · go_wp2_with fail
    go_quiet (fail)
    go_wp2_with fail
    go_ret2
    exact ⟨false, k, rfl, by show _ = _; simp [hok], by show _ = _; rw [hnil.out.2], h2, hb.trans ⟨rfl, rfl, rfl, Nat.le_refl _, fun _ _ => rfl⟩⟩
  · by_cases he : k = s.size
    · have hq : ((k : Int) == (s.size : Int)) = true := by rw [beq_iff_eq]; omega
      have hfin : Hid ((psTop s.data.toList).2 = []) := hnil.out.1.2 he
      clear he
      go_wp2_with fail
      go_quiet (fail)
      go_wp2_with fail
      go_ret2
      exact ⟨true, k, rfl, by show _ = _; simp [hok, hfin.out], by show _ = _; rw [hnil.out.2], h2, hb.trans ⟨rfl, rfl, rfl, Nat.le_refl _, fun _ _ => rfl⟩⟩
    · have hq : ((k : Int) == (s.size : Int)) = false := by rw [beq_eq_false_iff_ne]; omega
      have hfin : Hid (¬ (psTop s.data.toList).2 = []) := fun h => he (hnil.out.1.1 h)
      clear he
      go_wp2_with fail
      go_quiet (fail)
      go_wp2_with fail
      go_ret2
      exact ⟨false, k, rfl, by show _ = _; simp [hok, hfin.out], by show _ = _; rw [hnil.out.2], h2, hb.trans ⟨rfl, rfl, rfl, Nat.le_refl _, fun _ _ => rfl⟩⟩

set_option maxHeartbeats 400000 in
theorem check_long (s : ByteArray) (w : World) (hs : 60 < s.size) :
    Calls Tryz.prog 24 #[.string s] w fun e w' => e = .returned (.tuple #[.int .i64 4, .int .i64 0]) ∧ w' = w := by
  go_enter Tryz.func24, Tryz.ntmps24
  go_wp2_with fail
  go_ret2
  exact ⟨rfl, rfl⟩

set_option maxHeartbeats 400000 in
theorem check_ok (s : ByteArray) (w : World) (hs : s.size ≤ 60) :
    Calls Tryz.prog 24 #[.string s] w fun e w' => ∃ (a : Int) (k : Nat), e = .returned (.tuple #[.int .i64 a, .int .i64 k]) ∧ Hid (codeAns s.data.toList = (a, k)) ∧ k ≤ s.size ∧ Below w.heap.size w w' := by
  go_enter Tryz.func24, Tryz.ntmps24
  go_wp2_with fail
  refine (ask_any s _ (by omega)).mono ?_
  rintro e w1 ⟨b, k, rfl, hb, hk, hks, hB⟩
  have hl : s.data.toList.length = s.size := by simp
  cases b
  · have hf : Hid (codeAns s.data.toList = (8, k)) := by
      show _ = _
      unfold codeAns
      have h2 := of_decide_eq_false hb.out.symm
      rw [if_neg h2, hl, hk.out]
    clear hl
    go_wp2_with fail
    go_ret2
    exact ⟨8, k, rfl, hf, hks, hB⟩
  · have hf : Hid (codeAns s.data.toList = (0, 0)) := by
      show _ = _
      unfold codeAns
      have h2 := of_decide_eq_true hb.out.symm
      rw [if_pos h2]
    clear hl
    go_wp2_with fail
    go_ret2
    exact ⟨0, 0, rfl, hf, by omega, hB⟩
end Go.Proofs.YtcobkpapimnjaaaGreatDoor
