import Derived.Test.YtpdoacfiiledcaaProg
import Derived.Test.YtpdoacfiiledcaaSplitMath
import Derived.WalkKit
import Derived.WalkSpells
import Derived.WalkLawsBesides
import Derived.BigQuiet
import Derived.Deep.QuietTactic
namespace Go.Proofs.Ytpdoacfiiledcaa
open Go.RowKit SiftM

theorem hide {p : Prop} (h : p) : Hid p := h
theorem ret_int {k : IntKind} {a b : Int} (h : a = b) : Ending.returned (.int k a) = .returned (.int k b) := by rw [h]
theorem ret_bool {a b : Bool} (h : a = b) : Ending.returned (.bool a) = .returned (.bool b) := by rw [h]
theorem ret_str {a b : ByteArray} (h : a = b) : Ending.returned (.string a) = .returned (.string b) := by rw [h]

set_option maxHeartbeats 400000 in
theorem lowered_any (c : UInt8) (w : World) :
    Calls Try.prog 41 #[.int .u8 c.toNat] w fun e w' => e = .returned (.int .u8 (low c).toNat) ∧ w' = w := by
  have hc : (c.toNat : Int) ≤ 255 := by have := c.toNat_lt; omega
  by_cases h1 : (65 : Int) ≤ (c.toNat : Int)
  · by_cases h2 : (c.toNat : Int) ≤ 90
    · have e : Hid ((low c).toNat = c.toNat + 32) := by
        show (low c).toNat = c.toNat + 32
        unfold low; rw [if_pos (by omega)]; rw [UInt8.toNat_ofNat']; omega
      go_enter Try.func41, Try.ntmps41
      go_wp2
      go_ret
      exact ⟨ret_int (by rw [e.out]; omega), rfl⟩
    · have e : Hid (low c = c) := by show low c = c; unfold low; rw [if_neg (by omega)]
      go_enter Try.func41, Try.ntmps41
      go_wp2
      go_ret
      exact ⟨ret_int (by rw [e.out]), rfl⟩
  · have e : Hid (low c = c) := by show low c = c; unfold low; rw [if_neg (by omega)]
    go_enter Try.func41, Try.ntmps41
    go_wp2
    go_ret
    exact ⟨ret_int (by rw [e.out]), rfl⟩

theorem isSm_int (c : UInt8) : isSm c = (decide ((97 : Int) ≤ c.toNat) && decide ((c.toNat : Int) ≤ 122) || decide ((48 : Int) ≤ c.toNat) && decide ((c.toNat : Int) ≤ 57)) := by
  rw [Bool.eq_iff_iff]; simp [isSm]; omega

set_option maxHeartbeats 400000 in
theorem small_any (c : UInt8) (w : World) :
    Calls Try.prog 40 #[.int .u8 c.toNat] w fun e w' => e = .returned (.bool (isSm c)) ∧ w' = w := by
  have hs := hide (isSm_int c)
  by_cases h1 : (97 : Int) ≤ (c.toNat : Int)
  · by_cases h2 : (c.toNat : Int) ≤ 122
    · go_enter Try.func40, Try.ntmps40
      go_wp2
      go_ret
      exact ⟨ret_bool (by rw [hs.out]; simp [h1, h2]), rfl⟩
    · have h3 : (48 : Int) ≤ (c.toNat : Int) := by omega
      have h4 : ¬ (c.toNat : Int) ≤ 57 := by omega
      go_enter Try.func40, Try.ntmps40
      go_wp2
      go_ret
      exact ⟨ret_bool (by rw [hs.out]; simp; omega), rfl⟩
  · by_cases h3 : (48 : Int) ≤ (c.toNat : Int)
    · by_cases h4 : (c.toNat : Int) ≤ 57
      · go_enter Try.func40, Try.ntmps40
        go_wp2
        go_ret
        exact ⟨ret_bool (by rw [hs.out]; simp; omega), rfl⟩
      · go_enter Try.func40, Try.ntmps40
        go_wp2
        go_ret
        exact ⟨ret_bool (by rw [hs.out]; simp; omega), rfl⟩
    · go_enter Try.func40, Try.ntmps40
      go_wp2
      go_ret
      exact ⟨ret_bool (by rw [hs.out]; simp; omega), rfl⟩

/-- The end of the run of letters and digits that begins at k. -/
def runE (s : ByteArray) (k : Nat) : Nat := k + ((s.data.toList.drop k).takeWhile isW).length

theorem runE_hit (s : ByteArray) (m : Nat) (h : m < s.size) (hw : isSm (low s[m]) = true) : runE s m = runE s (m + 1) := by
  unfold runE
  have hl : m < s.data.toList.length := by simpa using h
  rw [List.drop_eq_getElem_cons hl, List.takeWhile_cons]
  have e : s.data.toList[m] = s[m] := rfl
  have hw' : isW s.data.toList[m] = true := by rw [e]; exact hw
  rw [if_pos hw']
  simp; omega
theorem runE_miss (s : ByteArray) (m : Nat) (h : m < s.size) (hw : isSm (low s[m]) = false) : runE s m = m := by
  unfold runE
  have hl : m < s.data.toList.length := by simpa using h
  rw [List.drop_eq_getElem_cons hl, List.takeWhile_cons]
  have e : s.data.toList[m] = s[m] := rfl
  have hw' : isW s.data.toList[m] = false := by rw [e]; exact hw
  rw [if_neg (by rw [hw']; simp)]; rfl
theorem runE_end (s : ByteArray) (m : Nat) (h : ¬ m < s.size) : runE s m = m := by
  unfold runE
  have hl : s.data.toList.length ≤ m := by simpa using h
  rw [List.drop_of_length_le hl]; rfl

set_option maxHeartbeats 400000 in
theorem runEnd_any (s : ByteArray) (k : Nat) (w : World) (hs : s.size ≤ 1000000) (hk : k ≤ s.size) :
    Calls Try.prog 21 #[.string s, .int .i64 k] w fun e w' => e = .returned (.int .i64 (runE s k)) ∧ w' = w := by
  go_enter Try.func21, Try.ntmps21
  go_wp2_with fail
  go_loop [1] (fun i => ∃ m : Nat, k ≤ m ∧ m ≤ s.size ∧ i = .int .i64 m ∧ runE s k = runE s m) (fun i => s.size - (intOf i).toNat)
  case atStart => exact ⟨k, Nat.le_refl _, hk, rfl, rfl⟩
  case round =>
    obtain ⟨m, h1, h2, rfl, hr⟩ := hrel
    replace hr := hide hr
    by_cases hlt : m < s.size
    · have HH := hide (runE_hit s m hlt)
      have HM := hide (runE_miss s m hlt)
      go_wp2_with fail
      refine (lowered_any _ _).mono ?_
      rintro e w' ⟨rfl, rfl⟩
      go_wp2_with fail
      refine (small_any _ _).mono ?_
      rintro e w' ⟨rfl, rfl⟩
      cases hw : isSm (low s[m])
      · go_wp2_with fail
        go_ret
        exact ⟨ret_int (by rw [hr.out, HM.out hw]), rfl⟩
      · go_wp2_with fail
        go_round
        case rel => exact ⟨m + 1, by omega, by omega, by go_num, by rw [hr.out, HH.out hw]⟩
        case measure => simp [intOf]; omega
    · have HM := hide (runE_end s m hlt)
      go_wp2_with fail
      go_ret
      exact ⟨ret_int (by rw [hr.out, HM.out]), rfl⟩
end Go.Proofs.Ytpdoacfiiledcaa
