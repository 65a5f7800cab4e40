import Derived.Test.YtpdoacfiiledcaaGreatDoorProg
import Derived.Test.YtpdoacfiiledcaaGreatDoorChkMath
import Derived.WalkKit
import Derived.WalkSpells
import Derived.WalkLawsBesides
import Derived.BigQuiet
import Derived.Deep.QuietTactic
namespace Go.Proofs.YtpdoacfiiledcaaGreatDoor
open Go.RowKit ChkM
set_option linter.unusedVariables false

theorem hide {p : Prop} (h : p) : Hid p := h
theorem ret_int {k : IntKind} {a b : Int} (h : a = b) : Ending.returned (.int k a) = .returned (.int k b) := by rw [h]
theorem ret_bool {a b : Bool} (h : a = b) : Ending.returned (.bool a) = .returned (.bool b) := by rw [h]

theorem isSm_int (c : UInt8) : isSm c = (decide ((97 : Int) ≤ c.toNat) && decide ((c.toNat : Int) ≤ 122) || decide ((48 : Int) ≤ c.toNat) && decide ((c.toNat : Int) ≤ 57)) := by
  rw [Bool.eq_iff_iff]; simp [isSm]; omega

set_option maxHeartbeats 400000 in
theorem small_any (c : UInt8) (w : World) :
    Calls Tryz.prog 356 #[.int .u8 c.toNat] w fun e w' => e = .returned (.bool (isSm c)) ∧ w' = w := by
  have hs := hide (isSm_int c)
  by_cases h1 : (97 : Int) ≤ (c.toNat : Int)
  · by_cases h2 : (c.toNat : Int) ≤ 122
    · go_enter Tryz.func356, Tryz.ntmps356
      go_wp2
      go_ret
      exact ⟨ret_bool (by rw [hs.out]; simp [h1, h2]), rfl⟩
    · have h3 : (48 : Int) ≤ (c.toNat : Int) := by omega
      have h4 : ¬ (c.toNat : Int) ≤ 57 := by omega
      go_enter Tryz.func356, Tryz.ntmps356
      go_wp2
      go_ret
      exact ⟨ret_bool (by rw [hs.out]; simp; omega), rfl⟩
  · by_cases h3 : (48 : Int) ≤ (c.toNat : Int)
    · by_cases h4 : (c.toNat : Int) ≤ 57
      · go_enter Tryz.func356, Tryz.ntmps356
        go_wp2
        go_ret
        exact ⟨ret_bool (by rw [hs.out]; simp; omega), rfl⟩
      · go_enter Tryz.func356, Tryz.ntmps356
        go_wp2
        go_ret
        exact ⟨ret_bool (by rw [hs.out]; simp; omega), rfl⟩
    · go_enter Tryz.func356, Tryz.ntmps356
      go_wp2
      go_ret
      exact ⟨ret_bool (by rw [hs.out]; simp; omega), rfl⟩

/-- A parser at block B: its text, and how far it has come. -/
def Pa (w : World) (B : Nat) (s : ByteArray) (k : Nat) : Prop :=
  w.cell? ⟨B, 0, none⟩ = some (.string s) ∧ w.cell? ⟨B, 1, none⟩ = some (.int .i64 k) ∧ w.frozen? ⟨B, 1, none⟩ = false
/-- What a reader of it leaves. -/
def Res (p : Bool × List UInt8) (B : Nat) (s : ByteArray) (k : Nat) (w : World) (e : Ending) (w' : World) : Prop :=
  ∃ k', e = .returned (.bool p.1) ∧ k ≤ k' ∧ k' ≤ s.size ∧ p.2 = s.data.toList.drop k' ∧ Pa w' B s k' ∧ w.grownBy w' (some B)

theorem grown_refl (w : World) (row : Option Nat) : w.grownBy w row := ⟨rfl, rfl, rfl, Nat.le_refl _, fun _ _ _ => rfl⟩
theorem grown_trans {a b c : World} {row : Option Nat} (h : a.grownBy b row) (k : b.grownBy c row) : a.grownBy c row :=
  ⟨k.os.trans h.os, k.tape.trans h.tape, k.output.trans h.output, Nat.le_trans h.size k.size, fun i hi hn => (k.block i (Nat.lt_of_lt_of_le hi h.size) hn).trans (h.block i hi hn)⟩
theorem grown_drewN (w : World) (n : Nat) (row : Option Nat) : w.grownBy (w.drewN n) row := ⟨rfl, rfl, rfl, Nat.le_refl _, fun _ _ _ => rfl⟩
theorem grown_set (w : World) (B o : Nat) (v : Value) : w.grownBy (w.setCell ⟨B, o, none⟩ v) (some B) :=
  ⟨rfl, rfl, rfl, by simp [World.setCell], fun k hk hn => Below.heap_setCell _ _ _ _ (fun e => hn (by rw [e]))⟩
theorem pa_drewN {w : World} {B : Nat} {s : ByteArray} {k : Nat} (h : Pa w B s k) (n : Nat) : Pa (w.drewN n) B s k := h
theorem pa_set {w : World} {B : Nat} {s : ByteArray} {k : Nat} (h : Pa w B s k) (j : Nat) : Pa (w.setCell ⟨B, 1, none⟩ (.int .i64 j)) B s j :=
  ⟨by rw [World.cell?_setCell_other _ _ _ _ (fun hh => by have := congrArg Addr.off hh; simp at this)]; exact h.1, World.cell?_setCell_same _ _ _ h.2.1, by simpa using h.2.2⟩

theorem drop_at (s : ByteArray) (k : Nat) (h : k < s.size) : s.data.toList.drop k = s[k] :: s.data.toList.drop (k + 1) := by
  have hl : k < s.data.toList.length := by simpa using h
  rw [List.drop_eq_getElem_cons hl]; rfl
theorem drop_end (s : ByteArray) (k : Nat) (h : ¬ k < s.size) : s.data.toList.drop k = [] := List.drop_of_length_le (by simp; omega)

set_option maxHeartbeats 400000 in
set_option maxRecDepth 100000 in
theorem take_any (c : UInt8) (s : ByteArray) (k B : Nat) (w : World) (hs : s.size ≤ 1000) (hk : k ≤ s.size) (hp : Pa w B s k) :
    Calls Tryz.prog 377 #[.pointer (some ⟨B, 0, none⟩), .int .u8 c.toNat] w (Res (takeC c (s.data.toList.drop k)) B s k w) := by
  have hp1 := hp.1
  have hp2 := hp.2.1
  have hp3 := hp.2.2
  replace hp := hide hp
  by_cases hlt : k < s.size
  · have h1 : (k : Int) < (s.size : Int) := by omega
    have h2 : (0 : Int) ≤ (k : Int) := by omega
    by_cases hc : s[k] = c
    · have hb : ((s[k].toNat : Int) == (c.toNat : Int)) = true := by rw [hc]; simp
      have hr : Hid (takeC c (s.data.toList.drop k) = (true, s.data.toList.drop (k + 1))) := by
        show takeC _ _ = _
        rw [drop_at s k hlt, takeC, if_pos hc]
      clear hc
      go_enter Tryz.func377, Tryz.ntmps377
      go_wp2_with fail
      go_quiet (fail)
      go_wp2_with fail
      go_ret
      rw [hr.out]
      exact ⟨k + 1, rfl, by omega, by omega, rfl, pa_set (pa_drewN hp.out _) (k + 1), grown_trans (grown_drewN _ _ _) (grown_set _ _ _ _)⟩
    · have hb : ((s[k].toNat : Int) == (c.toNat : Int)) = false := by
        rw [beq_eq_false_iff_ne]; intro h; exact hc (UInt8.toNat_inj.1 (by omega))
      have hr : Hid (takeC c (s.data.toList.drop k) = (false, s.data.toList.drop k)) := by
        show takeC _ _ = _
        rw [drop_at s k hlt, takeC, if_neg hc]
      clear hc
      go_enter Tryz.func377, Tryz.ntmps377
      go_wp2_with fail
      go_quiet (fail)
      go_wp2_with fail
      go_ret
      rw [hr.out]
      exact ⟨k, rfl, by omega, by omega, rfl, pa_drewN hp.out _, grown_drewN _ _ _⟩
  · have h1 : decide ((k : Int) < (s.size : Int)) = false := by simp; omega
    have hr : Hid (takeC c (s.data.toList.drop k) = (false, s.data.toList.drop k)) := by
      show takeC _ _ = _
      rw [drop_end s k hlt]; rfl
    go_enter Tryz.func377, Tryz.ntmps377
    go_wp2_with fail
    go_quiet (fail)
    go_wp2_with fail
    go_ret
    rw [hr.out]
    exact ⟨k, rfl, by omega, by omega, rfl, pa_drewN hp.out _, grown_drewN _ _ _⟩

theorem word_hit (s : ByteArray) (k m : Nat) (h : k + m < s.size) (hm : m < 8) (hc : isSm s[k + m] = true) :
    m + wordLen (8 - m) (s.data.toList.drop (k + m)) = m + 1 + wordLen (8 - (m + 1)) (s.data.toList.drop (k + (m + 1))) := by
  rw [drop_at s (k + m) h, show 8 - m = 8 - (m + 1) + 1 by omega, wordLen, if_pos hc, show k + m + 1 = k + (m + 1) by omega]; omega
theorem word_miss (s : ByteArray) (k m : Nat) (h : k + m < s.size) (hc : isSm s[k + m] = false) : wordLen (8 - m) (s.data.toList.drop (k + m)) = 0 := by
  rw [drop_at s (k + m) h]
  cases 8 - m with
  | zero => rfl
  | succ j => rw [wordLen, if_neg (by simp [hc])]
theorem word_end (s : ByteArray) (k m : Nat) (h : ¬ k + m < s.size) : wordLen (8 - m) (s.data.toList.drop (k + m)) = 0 := by
  rw [drop_end s (k + m) h]
  cases 8 - m <;> rfl
theorem wordP_of (s : ByteArray) (k m : Nat) (h : wordLen 8 (s.data.toList.drop k) = m) : wordP (s.data.toList.drop k) = (decide (0 < m), s.data.toList.drop (k + m)) := by
  unfold wordP; rw [h, List.drop_drop]
end Go.Proofs.YtpdoacfiiledcaaGreatDoor
