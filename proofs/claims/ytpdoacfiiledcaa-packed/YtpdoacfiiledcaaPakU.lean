import Derived.Test.YtpdoacfiiledcaaPakT
import Derived.Test.YtpdoacfiiledcaaPakQ
import Derived.Test.YtpdoacfiiledcaaPakK
namespace Go.Proofs.Ytpdoacfiiledcaa.Pak
open Go.RowKit Go.Proofs.Ytpdoacfiiledcaa SiftM
set_option linter.unusedVariables false

def sumL : List (List UInt8) → Nat
  | [] => 0
  | x :: r => x.length + sumL r
def lenF (ws : List (List UInt8)) : Nat := (ws.length - 1) + sumL ws
theorem sumL_snoc : ∀ (l : List (List UInt8)) (x : List UInt8), sumL (l ++ [x]) = sumL l + x.length
  | [], x => by simp [sumL]
  | y :: r, x => by simp [sumL, sumL_snoc r x]; omega
theorem sumL_take : ∀ (l : List (List UInt8)) (k : Nat), sumL (l.take k) ≤ sumL l
  | [], k => by simp [sumL]
  | y :: r, 0 => by simp [sumL]
  | y :: r, k + 1 => by have := sumL_take r k; simp [sumL]; omega

set_option maxHeartbeats 800000 in
set_option maxRecDepth 100000 in
theorem length_any (B : Nat) (v : Value) (ws : List (List UInt8)) (w : World) (h : w.ownsRow B 9 1 v ws.length (strV ws)) (hn : ws.length ≤ 1000000) (hs : sumL ws ≤ 100000000) :
    Calls Try.prog 58 #[v] w fun e w' => e = .returned (.int .i64 (lenF ws)) ∧ w' = w := by
  obtain ⟨a, cap, rfl, ha⟩ := owns_forms h
  have hmax : max ((ws.length : Int) - 1) 0 = ((ws.length - 1 : Nat) : Int) := by omega
  have Hl : Hid (lenF ws = (ws.length - 1) + sumL ws) := rfl
  generalize lenF ws = res at *
  obtain ⟨m, hm⟩ : ∃ m, ws.length - 1 = m := ⟨_, rfl⟩
  rw [hm] at hmax Hl
  have hmle : m ≤ 1000000 := by omega
  have HH := hide h
  clear h hm
  go_enter Try.func58, Try.ntmps58
  go_wp2_with fail
  go_loopw [3, 12] (fun tv iv wr => ∃ k : Nat, k ≤ ws.length ∧ iv = .int .i64 k ∧ tv = .int .i64 ((m + sumL (ws.take k) : Nat) : Int) ∧ wr = w) (fun _ iv _ => ws.length - (intOf iv).toNat)
  case atStart => exact ⟨0, by omega, rfl, by simp [sumL], rfl⟩
  case round =>
    obtain ⟨k, hk, rfl, rfl, rfl⟩ := hrel
    by_cases hlt : k < ws.length
    · obtain ⟨g, rfl⟩ := ha (by omega)
      have hc := strs_cells HH.out rfl k hlt
      have hsn : sumL (ws.take (k + 1)) = sumL (ws.take k) + ws[k].length := by rw [take_snocL ws k hlt, sumL_snoc]
      have hst := sumL_take ws (k + 1)
      have hszk : (ByteArray.mk ws[k].toArray).size = ws[k].length := by show ws[k].toArray.size = _; simp
      obtain ⟨x, hx⟩ : ∃ x, (ByteArray.mk ws[k].toArray) = x := ⟨_, rfl⟩
      rw [hx] at hc hszk
      rw [← hszk] at hsn
      obtain ⟨s1, hs1⟩ : ∃ s1, sumL (ws.take k) = s1 := ⟨_, rfl⟩
      rw [hs1] at hsn ⊢
      have Hsn := hide hsn
      rw [hsn] at hst
      clear hsn hszk hx hs1
      go_wp2_with fail
      go_roundw
      case rel => exact ⟨k + 1, by omega, by go_num, by rw [Hsn.out]; go_num, by trivial⟩
      case measure => simp [intOf]; omega
    · have ek : k = ws.length := by omega
      subst ek
      rw [List.take_length]
      go_wp2_with fail
      go_ret
      exact ⟨ret_int (by rw [Hl.out]), by trivial⟩
end Go.Proofs.Ytpdoacfiiledcaa.Pak
