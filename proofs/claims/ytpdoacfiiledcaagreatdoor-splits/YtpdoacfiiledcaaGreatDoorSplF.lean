import Derived.Test.YtpdoacfiiledcaaGreatDoorSplE
import Derived.Deep.RegionHeld3
import Derived.Deep.RegionWith
namespace Go.Proofs.YtpdoacfiiledcaaGreatDoor.Spl
open Go.RowKit Go.Proofs.YtpdoacfiiledcaaGreatDoor Go.Proofs.YtpdoacfiiledcaaGreatDoor.SiftM
set_option linter.unusedVariables false

theorem low_of_not (c : UInt8) (h : ¬ (65 ≤ c.toNat ∧ c.toNat ≤ 90)) : low c = c := by unfold low; rw [if_neg h]
theorem low_of (c : UInt8) (h : 65 ≤ c.toNat ∧ c.toNat ≤ 90) : (low c).toNat = c.toNat + 32 := by
  unfold low; rw [if_pos h, UInt8.toNat_ofNat']; omega
theorem isW_iff (c : UInt8) : isW c = true ↔ (97 ≤ c.toNat ∧ c.toNat ≤ 122) ∨ (48 ≤ c.toNat ∧ c.toNat ≤ 57) ∨ (65 ≤ c.toNat ∧ c.toNat ≤ 90) := by
  unfold isW
  rw [isSm_iff]
  by_cases h : 65 ≤ c.toNat ∧ c.toNat ≤ 90
  · rw [low_of c h]; omega
  · rw [low_of_not c h]; omega
theorem smR_small (c : UInt8) (h : (97 ≤ c.toNat ∧ c.toNat ≤ 122) ∨ (48 ≤ c.toNat ∧ c.toNat ≤ 57)) : smR c = c := by
  unfold smR; rw [if_pos ((isW_iff c).2 (by omega)), low_of_not c (by omega)]
theorem smR_big (c : UInt8) (h : 65 ≤ c.toNat ∧ c.toNat ≤ 90) : (smR c).toNat = c.toNat + 32 := by
  unfold smR; rw [if_pos ((isW_iff c).2 (by omega)), low_of c h]
theorem smR_none (c : UInt8) (h : ¬ ((97 ≤ c.toNat ∧ c.toNat ≤ 122) ∨ (48 ≤ c.toNat ∧ c.toNat ≤ 57) ∨ (65 ≤ c.toNat ∧ c.toNat ≤ 90))) : smR c = 0 := by
  unfold smR; rw [if_neg (fun e => h ((isW_iff c).1 e))]

set_option maxHeartbeats 400000 in
set_option maxRecDepth 100000 in
theorem smallR_any (c : UInt8) (w : World) :
    Calls Tryz.prog 278 #[.int .u8 c.toNat] w fun e w' => e = .returned (.int .u8 (smR c).toNat) ∧ w' = w := by
  have hc : (c.toNat : Int) ≤ 255 := by have := c.toNat_lt; omega
  by_cases h1 : (97 : Int) ≤ (c.toNat : Int)
  · by_cases h2 : (c.toNat : Int) ≤ 122
    · have e := hide (smR_small c (by omega))
      go_enter Tryz.func278, Tryz.ntmps278
      go_wp2
      go_ret
      exact ⟨ret_int (by rw [e.out]), rfl⟩
    · have e := hide (smR_none c (by omega))
      go_enter Tryz.func278, Tryz.ntmps278
      go_wp2
      go_ret
      exact ⟨ret_int (by rw [e.out]; rfl), rfl⟩
  · by_cases h3 : (48 : Int) ≤ (c.toNat : Int)
    · by_cases h4 : (c.toNat : Int) ≤ 57
      · have e := hide (smR_small c (by omega))
        go_enter Tryz.func278, Tryz.ntmps278
        go_wp2
        go_ret
        exact ⟨ret_int (by rw [e.out]), rfl⟩
      · by_cases h5 : (65 : Int) ≤ (c.toNat : Int)
        · by_cases h6 : (c.toNat : Int) ≤ 90
          · have e := hide (smR_big c (by omega))
            go_enter Tryz.func278, Tryz.ntmps278
            go_wp2
            go_ret
            exact ⟨ret_int (by rw [e.out]; omega), rfl⟩
          · have e := hide (smR_none c (by omega))
            go_enter Tryz.func278, Tryz.ntmps278
            go_wp2
            go_ret
            exact ⟨ret_int (by rw [e.out]; rfl), rfl⟩
        · have e := hide (smR_none c (by omega))
          go_enter Tryz.func278, Tryz.ntmps278
          go_wp2
          go_ret
          exact ⟨ret_int (by rw [e.out]; rfl), rfl⟩
    · have e := hide (smR_none c (by omega))
      go_enter Tryz.func278, Tryz.ntmps278
      go_wp2
      go_ret
      exact ⟨ret_int (by rw [e.out]; rfl), rfl⟩

theorem smR_zero (c : UInt8) (h : isW c = false) : smR c = 0 := by unfold smR; rw [if_neg (by simp [h])]
theorem smR_pos (c : UInt8) (h : isW c = true) : smR c = low c ∧ (low c).toNat ≠ 0 := by
  refine ⟨by unfold smR; rw [if_pos h], ?_⟩
  have := (isSm_iff (low c)).1 h
  omega
theorem stepR_zero (p : List (List UInt8) × Nat) (c : UInt8) (h : isW c = false) : stepR p c = (p.1, 0) := by unfold stepR; rw [if_pos h]
theorem stepR_new (l : List (List UInt8)) (c : UInt8) (h : isW c = true) : stepR (l, 0) c = (l ++ [[low c]], 1) := by unfold stepR; rw [if_neg (by simp [h]), if_pos rfl]
theorem stepR_more (l : List (List UInt8)) (x : List UInt8) (m : Nat) (c : UInt8) (h : isW c = true) (hm : 0 < m) (h8 : m < 8) : stepR (l ++ [x], m) c = (l ++ [x ++ [low c]], m + 1) := by
  unfold stepR; rw [if_neg (by simp [h]), if_neg (by show ¬ m = 0; omega)]; simp [h8]
theorem stepR_over (l : List (List UInt8)) (m : Nat) (c : UInt8) (h : isW c = true) (h8 : ¬ m < 8) : stepR (l, m) c = (l, m + 1) := by
  unfold stepR; rw [if_neg (by simp [h]), if_neg (by show ¬ m = 0; omega)]; simp [h8]
/-- A run is not begun without a word. -/
theorem stepR_inv (p : List (List UInt8) × Nat) (c : UInt8) (h : 0 < p.2 → p.1 ≠ []) : 0 < (stepR p c).2 → (stepR p c).1 ≠ [] := by
  unfold stepR
  split
  · intro h'; simp at h'
  · split
    · intro _; simp
    · intro _
      show (if p.2 < 8 then _ else p.1) ≠ []
      split
      · simp
      · exact h (by omega)
end Go.Proofs.YtpdoacfiiledcaaGreatDoor.Spl
