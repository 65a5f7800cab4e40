import Derived.Test.YtcobkpapimnjaaaGreatDoorChkA
import Derived.Deep.LoopGhost
namespace Go.Proofs.YtcobkpapimnjaaaGreatDoor
open Go.RowKit ChkM
set_option linter.unusedVariables false

set_option maxHeartbeats 400000 in
set_option maxRecDepth 100000 in
theorem word_any (s : ByteArray) (k B : Nat) (w : World) (hs : s.size ≤ 1000) (hk : k ≤ s.size) (hp : Pa w B s k) :
    Calls Tryz.prog 231 #[.pointer (some ⟨B, 0, none⟩)] w (Res (wordP (s.data.toList.drop k)) B s k w) := by
  have hp2 := hp.2.1
  replace hp := hide hp
  go_enter Tryz.func231, Tryz.ntmps231
  go_wp2_with fail
  clear hp2
  go_loopg [8] 8 (fun g u wr => ∃ m : Nat, g = 8 - m ∧ m ≤ 8 ∧ k + m ≤ s.size ∧ Hid (wordLen 8 (s.data.toList.drop k) = m + wordLen (8 - m) (s.data.toList.drop (k + m))) ∧ Pa wr B s (k + m) ∧ w.grownBy wr (some B))
  case atStart => exact ⟨0, rfl, by omega, by omega, by show _ = _; simp, hp.out, grown_refl _ _⟩
  case round =>
    obtain ⟨m, rfl, hm, hkm, hW, hP, hg⟩ := hrel
    have hp1 := hP.1
    have hp2 := hP.2.1
    have hp3 := hP.2.2
    rw [show ((k + m : Nat) : Int) = (k : Int) + (m : Int) by omega] at hp2
    by_cases hlt : k + m < s.size
    · have h1 : (k : Int) + (m : Int) < (s.size : Int) := by omega
      have h1' : (0 : Int) ≤ (k : Int) + (m : Int) := by omega
      by_cases h8 : m < 8
      · have h2 : (k : Int) + (m : Int) - (k : Int) < 8 := by omega
        have HH := hide (word_hit s k m hlt h8)
        have HM := hide (word_miss s k m hlt)
        cases hc : isSm s[k + m]
        · go_wp2_with fail
          go_quiet ((go_at_call 166; exact Calls.quiet_of_same (small_any _ _)))
          go_wp2_with fail
          go_ret
          have hz : wordLen 8 (s.data.toList.drop k) = m := by rw [hW.out, HM.out hc]; rfl
          rw [wordP_of s k m hz]
          exact ⟨k + m, ret_bool (by simp; omega), by omega, by omega, rfl, hP, grown_trans hg (grown_drewN _ _ _)⟩
        · go_wp2_with fail
          go_quiet ((go_at_call 166; exact Calls.quiet_of_same (small_any _ _)))
          go_wp2_with fail
          go_roundg (8 - (m + 1))
          case measure => omega
          case rel =>
            refine ⟨m + 1, rfl, by omega, by omega, by show _ = _; rw [hW.out, HH.out hc], ?_, grown_trans (grown_trans hg (grown_drewN _ _ _)) (grown_set _ _ _ _)⟩
            exact pa_set (pa_drewN hP _) (k + (m + 1))
      · have h2 : decide ((k : Int) + (m : Int) - (k : Int) < 8) = false := by simp; omega
        go_wp2_with fail
        go_quiet (fail)
        go_wp2_with fail
        go_ret
        have hz : wordLen 8 (s.data.toList.drop k) = m := by rw [hW.out, show 8 - m = 0 by omega]; rfl
        rw [wordP_of s k m hz]
        exact ⟨k + m, ret_bool (by simp; omega), by omega, by omega, rfl, hP, grown_trans hg (grown_drewN _ _ _)⟩
    · have h1 : decide ((k : Int) + (m : Int) < (s.size : Int)) = false := by simp; omega
      have HM := hide (word_end s k m hlt)
      go_wp2_with fail
      go_quiet (fail)
      go_wp2_with fail
      go_ret
      have hz : wordLen 8 (s.data.toList.drop k) = m := by rw [hW.out, HM.out]; rfl
      rw [wordP_of s k m hz]
      exact ⟨k + m, ret_bool (by simp; omega), by omega, by omega, rfl, hP, grown_trans hg (grown_drewN _ _ _)⟩
end Go.Proofs.YtcobkpapimnjaaaGreatDoor
