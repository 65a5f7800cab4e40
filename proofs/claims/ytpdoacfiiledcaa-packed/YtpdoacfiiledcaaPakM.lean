import Derived.Test.YtpdoacfiiledcaaPakE
namespace Go.Proofs.Ytpdoacfiiledcaa.Pak
open Go.RowKit Go.Proofs.Ytpdoacfiiledcaa SiftM
set_option linter.unusedVariables false

def isWord (l : List UInt8) : Bool := decide (1 ≤ l.length) && decide (l.length ≤ 8) && l.all isSm

set_option maxHeartbeats 800000 in
set_option maxRecDepth 100000 in
theorem is_any (s : ByteArray) (w : World) (hs : s.size ≤ 1000000) :
    Calls Try.prog 75 #[.string s] w fun e w' => e = .returned (.bool (isWord s.data.toList)) ∧ w' = w := by
  have hsz : s.data.toList.length = s.size := by simp
  by_cases h1 : s.size < 1
  · have e : Hid (isWord s.data.toList = false) := by
      show _ = _; unfold isWord; rw [hsz]; simp; omega
    generalize isWord s.data.toList = r at *
    go_enter Try.func75, Try.ntmps75
    go_wp2_with fail
    go_ret
    exact ⟨ret_bool e.out.symm, rfl⟩
  · by_cases h2 : 8 < s.size
    · have e : Hid (isWord s.data.toList = false) := by
        show _ = _; unfold isWord; rw [hsz]; simp; omega
      generalize isWord s.data.toList = r at *
      go_enter Try.func75, Try.ntmps75
      go_wp2_with fail
      go_ret
      exact ⟨ret_bool e.out.symm, rfl⟩
    · have e : Hid (isWord s.data.toList = s.data.toList.all isSm) := by
        show _ = _; unfold isWord; rw [hsz]; simp; omega
      generalize isWord s.data.toList = r at *
      go_enter Try.func75, Try.ntmps75
      go_wp2_with fail
      go_loopw [14] (fun iv wr => ∃ k : Nat, k ≤ s.size ∧ iv = .int .i64 k ∧ (s.data.toList.take k).all isSm = true ∧ wr = w) (fun iv _ => s.size - (intOf iv).toNat)
      case atStart => exact ⟨0, by omega, rfl, by simp, rfl⟩
      case round =>
        obtain ⟨k, hk, rfl, ht, rfl⟩ := hrel
        by_cases hlt : k < s.size
        · have htk := hide (take_snoc s k hlt)
          have Ht := hide ht
          clear ht
          by_cases hsm : isSm s[k] = true
          · have hN := small_any s[k] wr
            rw [hsm] at hN
            have HN := hide hN
            have Hsm := hide hsm
            clear hN hsm
            go_wp2_with fail
            refine HN.out.mono ?_
            rintro e w1 ⟨rfl, rfl⟩
            go_wp2_with fail
            go_roundw
            case rel =>
              refine ⟨k + 1, by omega, by go_num, ?_, by trivial⟩
              rw [htk.out, List.all_append, Ht.out]; simp [Hsm.out]
            case measure => simp [intOf]; omega
          · have hsm' : isSm s[k] = false := by simpa using hsm
            have hN := small_any s[k] wr
            rw [hsm'] at hN
            have HN := hide hN
            have Hsm := hide hsm'
            clear hN hsm hsm'
            go_wp2_with fail
            refine HN.out.mono ?_
            rintro e w1 ⟨rfl, rfl⟩
            go_wp2_with fail
            go_ret
            refine ⟨ret_bool ?_, by trivial⟩
            rw [e.out]
            symm
            rw [List.all_eq_false]
            exact ⟨s[k], List.mem_of_mem_take (i := k + 1) (by rw [htk.out]; simp), by simp [Hsm.out]⟩
        · have ek : k = s.size := by omega
          subst ek
          have Ht := hide ht
          clear ht
          go_wp2_with fail
          go_ret
          refine ⟨ret_bool ?_, by trivial⟩
          rw [e.out]
          have := Ht.out
          rw [List.take_of_length_le (by rw [hsz]; omega)] at this
          exact this.symm
end Go.Proofs.Ytpdoacfiiledcaa.Pak
