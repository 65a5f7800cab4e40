import Derived.Test.YtpdoacfiiledcaaPakD
namespace Go.Proofs.Ytpdoacfiiledcaa.Pak
open Go.RowKit Go.Proofs.Ytpdoacfiiledcaa SiftM
set_option linter.unusedVariables false

def textF (st : Option (List UInt8)) (n : Nat) : List UInt8 × Option (List UInt8) :=
  match st with
  | none => ([], none)
  | some l => if l.length < n then ([], none) else (l.take n, some (l.drop n))

theorem conv_vw (w : World) (B : Nat) (a : Option Addr) (l : List UInt8) (h : Vw w B a l) (cap : Nat) :
    (convert 36 9 (.slice a l.length cap)).run Try.prog w = .ok (.string ⟨l.toArray⟩) w := by
  rcases h with ⟨rfl, rfl⟩ | ⟨g, off, rfl, hg, hc⟩
  · exact run_convert_bytes_nil (P := Try.prog) w 36 5 Try.underlying36 Try.underlying5 0 cap 9 Try.underlying9
  · have hb : Lib.Bytes w g off ⟨l.toArray⟩ := by
      intro i hi
      have hi' : i < l.length := by
        have h2 : i < l.toArray.size := hi
        simpa using h2
      rw [hc i hi']
      rfl
    exact Lib.run_convert_whole (P := Try.prog) w 36 5 9 Try.underlying36 Try.underlying5 Try.underlying9 g off ⟨l.toArray⟩ hb cap

set_option maxHeartbeats 400000 in
set_option maxRecDepth 100000 in
theorem text_rd (R B : Nat) (st : Option (List UInt8)) (n : Nat) (w : World) (h : Rd w R B st) (hn : n ≤ 1000000) :
    Calls Try.prog 52 #[.pointer (some ⟨R, 0, none⟩), .int .i64 n] w fun e w' => e = .returned (.string ⟨(textF st n).1.toArray⟩) ∧ Rd w' R B (textF st n).2 ∧ Kp [R] w w' := by
  match st, h with
  | none, h =>
    have hB := h.1
    obtain ⟨c0, c1, f0, f1⟩ := rd_cells h.2
    have H := hide h.2
    have HH := hide h
    clear h
    show Calls _ _ _ _ fun e w' => e = .returned (.string ⟨([] : List UInt8).toArray⟩) ∧ Rd w' R B none ∧ Kp [R] w w'
    by_cases h0 : 0 < n
    · go_enter Try.func52, Try.ntmps52
      go_wp2_with fail
      refine (fail_any R B hB _ _ w H.out).mono ?_
      rintro e w1 ⟨rfl, hr1, hk1⟩
      have HR1 := hide hr1
      clear hr1
      go_wp2_with fail
      go_ret
      exact ⟨rfl, HR1.out, hk1⟩
    · have : n = 0 := by omega
      subst this
      have hcv : ∀ w', (convert 36 9 (.slice none 0 0)).run Try.prog w' = .ok (.string ⟨#[]⟩) w' := fun w' => run_convert_bytes_nil (P := Try.prog) w' 36 5 Try.underlying36 Try.underlying5 0 0 9 Try.underlying9
      go_enter Try.func52, Try.ntmps52
      go_wp2_with fail
      go_ret
      refine ⟨rfl, ⟨hB, ?_⟩, (Kp.refl _ _).setCell (.inl (by simp)) _⟩
      have e1 := heap_setCell_same w R 0 _ 107 (.slice none 0 0) H.out
      rw [e1]; rfl
  | some l, h =>
    obtain ⟨hB, a, cap, hb, hv, hc1, hc2⟩ := h
    obtain ⟨c0, c1, f0, f1⟩ := rd_cells hb
    have H := hide hb
    have HV := hide hv
    clear hb hv
    by_cases hlt : l.length < n
    · have e : textF (some l) n = ([], none) := by simp [textF, hlt]
      rw [e]
      clear e
      go_enter Try.func52, Try.ntmps52
      go_wp2_with fail
      refine (fail_any R B hB _ _ w H.out).mono ?_
      rintro e w1 ⟨rfl, hr1, hk1⟩
      have HR1 := hide hr1
      clear hr1
      go_wp2_with fail
      go_ret
      exact ⟨rfl, HR1.out, hk1⟩
    · have e : textF (some l) n = (l.take n, some (l.drop n)) := by simp [textF, hlt]
      rw [e]
      clear e
      have hcv : (convert 36 9 (.slice a n cap)).run Try.prog w = .ok (.string ⟨(l.take n).toArray⟩) w := by
        have hv' : Vw w B a (l.take n) := by
          rcases HV.out with ⟨rfl, ha⟩ | ⟨g, off, ha, hg, hc⟩
          · exact .inl ⟨by simp, ha⟩
          · exact .inr ⟨g, off, ha, hg, fun j hj => by
              have hj' : j < l.length := by simp at hj; omega
              rw [hc j hj']; simp⟩
        have := conv_vw w B a (l.take n) hv' cap
        rw [List.length_take, Nat.min_eq_left (by omega)] at this
        exact this
      obtain ⟨m, hm⟩ : ∃ m, l.length = m := ⟨_, rfl⟩
      have Hm := hide hm
      rw [hm] at c0 hc1 hlt
      clear hm
      rcases HV.out with ⟨rfl, rfl⟩ | ⟨g, off, rfl, hg, hc⟩
      · have e0 : m = 0 := by have := Hm.out; simp at this; omega
        have e1 : n = 0 := by omega
        subst e0 e1
        go_enter Try.func52, Try.ntmps52
        go_wp2_with fail
        go_ret
        refine ⟨rfl, rd_put hB H.out rfl (.inl ⟨rfl, rfl⟩) (by simp) hc2, (Kp.refl _ _).setCell (.inl (by simp)) _⟩
      · have HC := hide hc
        clear hc
        go_enter Try.func52, Try.ntmps52
        go_wp2_with fail
        · go_ret
          have hl : l.length ≤ n := by have := Hm.out; omega
          refine ⟨rfl, rd_put hB H.out (by have := Hm.out; simp; omega) (.inr ⟨g, off, rfl, hg, fun j hj => by simp at hj; omega⟩) (by simp; omega) (by omega), (Kp.refl _ _).setCell (.inl (by simp)) _⟩
        · go_ret
          refine ⟨rfl, rd_put hB H.out (by have := Hm.out; simp; omega) (.inr ⟨g, off + n, rfl, hg, fun j hj => ?_⟩) (by have := Hm.out; simp; omega) (by omega), (Kp.refl _ _).setCell (.inl (by simp)) _⟩
          have hj' : n + j < l.length := by simp at hj; omega
          have := HC.out (n + j) hj'
          rw [← Nat.add_assoc] at this
          simpa using this
end Go.Proofs.Ytpdoacfiiledcaa.Pak
