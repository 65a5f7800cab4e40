import Derived.Test.YtpdoacfiiledcaaGreatDoorV44
import Derived.Test.YtpdoacfiiledcaaGreatDoorV45
import Derived.Test.YtpdoacfiiledcaaGreatDoorV38
import Derived.Test.YtpdoacfiiledcaaGreatDoorV37
import Derived.Test.YtpdoacfiiledcaaGreatDoorV42
import Derived.BigQuiet
import Derived.Deep.QuietTactic
set_option linter.unusedVariables false
set_option linter.unusedSimpArgs false
set_option maxRecDepth 100000
namespace Go.Proofs.YtpdoacfiiledcaaGreatDoor.Pak
open Go.RowKit Go.Proofs.YtpdoacfiiledcaaGreatDoor Go.Proofs.YtpdoacfiiledcaaGreatDoor.Spl SiftM

set_option maxHeartbeats 1000000 in
theorem pick_any (c : Int) (n : Nat) (hc : -9223372036854775808 ≤ c ∧ c ≤ 9223372036854775807) (hn : 0 < n) (hn2 : n ≤ 1000001) :
    ∃ r : Nat, r < n ∧ ∀ w : World, Calls Tryz.prog 44 #[.int .i64 c, .int .i64 (n : Int)] w fun e w' => e = .returned (.int .i64 (r : Int)) ∧ w' = w := by
  have key : ∀ x : Int, 0 ≤ x → ∃ r : Nat, r < n ∧ Int.tmod x (n : Int) = (r : Int) := by
    intro x hx
    refine ⟨(x % (n : Int)).toNat, ?_, ?_⟩
    · have := Int.emod_lt_of_pos x (show (0 : Int) < n by omega)
      have := Int.emod_nonneg x (show (n : Int) ≠ 0 by omega)
      omega
    · rw [Int.tmod_eq_emod_of_nonneg hx]
      have := Int.emod_nonneg x (show (n : Int) ≠ 0 by omega)
      omega
  have hn0 : ((n : Int) == 0) = false := by rw [beq_eq_false_iff_ne]; omega
  have hn1 : ((n : Int) == -1) = false := by rw [beq_eq_false_iff_ne]; omega
  by_cases h0 : c < 0
  · obtain ⟨r, hr, er⟩ := key (-(c + 1)) (by omega)
    have q1 : IntKind.i64.wrap (c + 1) = c + 1 := IntWalk.i64_in _ ⟨by omega, by omega⟩
    have q2 : IntKind.i64.wrap (-(c + 1)) = -(c + 1) := IntWalk.i64_in _ ⟨by omega, by omega⟩
    have q3 : IntKind.i64.wrap (r : Int) = (r : Int) := IntWalk.i64_in _ ⟨by omega, by omega⟩
    refine ⟨r, hr, fun w => ?_⟩
    go_enter Tryz.func44, Tryz.ntmps44
    go_wp2_with fail
    go_ret
    exact ⟨rfl, rfl⟩
  · obtain ⟨r, hr, er⟩ := key c (by omega)
    have q3 : IntKind.i64.wrap (r : Int) = (r : Int) := IntWalk.i64_in _ ⟨by omega, by omega⟩
    refine ⟨r, hr, fun w => ?_⟩
    go_enter Tryz.func44, Tryz.ntmps44
    go_wp2_with fail
    go_ret
    exact ⟨rfl, rfl⟩
theorem ps_cell {w : World} {B g n cap : Nat} {Q : List PrS} (h : w.ownsRow B 100 1 (.slice (some ⟨g, 0, none⟩) n cap) n (prV Q)) (i : Nat) (hi : i < Q.length) : w.cell? ⟨g, i, none⟩ = some (.pointer (some ⟨Q[i].p, 0, none⟩)) := by
  have hg : (prV Q)[i]? = some (.pointer (some ⟨Q[i].p, 0, none⟩)) := by simp [prV, hi]
  have c0 := h.cells (g := g) rfl _ _ hg
  have ea : ∀ j, (⟨g, 0, none⟩ : Addr).add j = ⟨g, j, none⟩ := by intro j; unfold Addr.add; split <;> simp_all
  rw [ea] at c0
  exact c0
/-- The law's world behind a step. -/
def Nxt (w : World) (P B K : Nat) : Prop := ∃ c psv sv Q F, SW w P B K c psv sv Q F
set_option maxHeartbeats 4000000 in
theorem step9 (P B K : Nat) (a b c d : Int) (s : ByteArray) (la : Option Addr) (ln lc : Nat) (na : Option Addr) (nn nc : Nat) (fa : Option Addr) (fn fc : Nat) (w : World) (h : Nxt w P B K) (hK : K < 1000000) (PlB : B ≤ P) (hs : s.size ≤ 140737488355328) (ha : -9223372036854775808 ≤ a ∧ a ≤ 9223372036854775807) :
    Calls Tryz.prog 24 #[.pointer (some ⟨P, 0, none⟩), opA 9 a b c d s (.slice la ln lc) (.slice na nn nc) (.slice fa fn fc)] w fun e w' => e = .returned (.bool true) ∧ Nxt w' P B (K + 1) ∧ Below B w w' := by
  obtain ⟨cc, psv, sv, Q, F, h⟩ := h
  obtain ⟨W, hW⟩ : ∃ W, w.alloc (.cells (opC 9 a b c d s (.slice la ln lc) (.slice na nn nc) (.slice fa fn fc)) 69) = W := ⟨_, rfl⟩
  have kW : Kp [] w W := by rw [← hW]; exact (Kp.refl _ _).alloc _
  have bW : W.heap[w.heap.size]? = some (.cells (opC 9 a b c d s (.slice la ln lc) (.slice na nn nc) (.slice fa fn fc)) 69 (0, 0)) := by rw [← hW]; exact heap_alloc_new _ _
  obtain ⟨o0, o1, o2, o5⟩ := op_cells bW
  have ox : W.cell? ⟨w.heap.size, 3, none⟩ = some (.int .i64 c) ∧ W.cell? ⟨w.heap.size, 4, none⟩ = some (.int .i64 d) ∧ W.cell? ⟨w.heap.size, 6, none⟩ = some (.slice la ln lc) ∧ W.cell? ⟨w.heap.size, 7, none⟩ = some (.slice na nn nc) ∧ W.cell? ⟨w.heap.size, 8, none⟩ = some (.slice fa fn fc) := by simp [World.cell?, bW, opC]
  obtain ⟨o3, o4, o6, o7, o8⟩ := ox
  have hWD := h.kp0 kW
  obtain ⟨p0, _⟩ := sw_c0 hWD.blk
  obtain ⟨ag, cap, es, hag⟩ := owns_forms hWD.ps
  have hnq := hWD.nq
  obtain ⟨nQ, hnQ⟩ : ∃ nQ, Q.length = nQ := ⟨_, rfl⟩
  rw [hnQ] at es hag hnq
  rw [es] at p0
  have hrow := hWD.ps
  rw [es, hnQ] at hrow
  have HROW := hide hrow
  have HWD := hide hWD
  have HH := hide h
  have HKW := hide kW
  have HNQ := hide hnQ
  clear h hWD bW kW es hrow hnQ
  by_cases hq0 : nQ = 0
  · subst hq0
    clear hag
    unfold opA
    go_enter Tryz.func24, Tryz.ntmps24
    unfold opC at hW
    go_wp2_with fail
    go_ret
    exact ⟨rfl, ⟨_, _, _, _, _, HWD.out.up⟩, HKW.out.below HH.out.low (by simp)⟩
  · have hq1 : ((nQ : Int) == 0) = false := by rw [beq_eq_false_iff_ne]; omega
    obtain ⟨r, hr, hpick⟩ := pick_any a nQ ha (by omega) (by omega)
    obtain ⟨g, rfl⟩ := hag (by omega)
    have hrQ : r < Q.length := by rw [HNQ.out]; exact hr
    have hpc := ps_cell HROW.out r hrQ
    have j1 : (0 : Int) ≤ (r : Int) := by omega
    have j2 : (r : Int) < (nQ : Int) := by omega
    obtain ⟨qp, hqp⟩ : ∃ qp, Q[r].p = qp := ⟨_, rfl⟩
    rw [hqp] at hpc
    have HQP := hide hqp
    have HPK := hide hpick
    clear hqp hpick
    unfold opA
    go_enter Tryz.func24, Tryz.ntmps24
    unfold opC at hW
    go_wp2_with fail
    go_quiet ((go_at_call 44; exact Calls.quiet_of_same (HPK.out _)))
    go_wp2_with fail
    have hmv : ∀ m : Nat, Calls Tryz.prog 47 #[opA 9 a b c d s (.slice la ln lc) (.slice na nn nc) (.slice fa fn fc), .pointer (some ⟨qp, 0, none⟩)] (W.drewN m) fun e w' => e = .returned (.bool true) ∧ Nxt w' P B (K + 1) ∧ Below B w w' := by
      intro m
      have kD : Kp [] W (W.drewN m) := (Kp.refl [] W).drewN m
      have h1 := HWD.out.kp0 kD
      rw [← HQP.out]
      refine (moved9 P B K cc psv sv Q F r hrQ a b c d s la ln lc na nn nc fa fn fc (W.drewN m) h1 hK hs).mono ?_
      rintro e w' ⟨rfl, ⟨c', Q', hsw⟩, hbl⟩
      exact ⟨rfl, ⟨_, _, _, _, _, hsw⟩, ((HKW.out.next kD).below HH.out.low (by simp)).trans hbl⟩
    unfold opA at hmv
    refine (hmv _).mono ?_
    rintro e w' ⟨rfl, hn, hbl⟩
    go_wp2_with fail
    go_ret
    exact ⟨rfl, hn, hbl⟩
end Go.Proofs.YtpdoacfiiledcaaGreatDoor.Pak

set_option linter.unusedVariables false
set_option linter.unusedSimpArgs false
set_option maxRecDepth 100000
namespace Go.Proofs.YtpdoacfiiledcaaGreatDoor.Pak
open Go.RowKit Go.Proofs.YtpdoacfiiledcaaGreatDoor Go.Proofs.YtpdoacfiiledcaaGreatDoor.Spl SiftM

set_option maxHeartbeats 4000000 in
theorem step6 (P B K : Nat) (a b c d : Int) (s : ByteArray) (la : Option Addr) (ln lc : Nat) (na : Option Addr) (nn nc : Nat) (fa : Option Addr) (fn fc : Nat) (w : World) (h : Nxt w P B K) (hK : K < 1000000) (PlB : B ≤ P) (hs : s.size ≤ 140737488355328) (ha : -9223372036854775808 ≤ a ∧ a ≤ 9223372036854775807) :
    Calls Tryz.prog 24 #[.pointer (some ⟨P, 0, none⟩), opA 6 a b c d s (.slice la ln lc) (.slice na nn nc) (.slice fa fn fc)] w fun e w' => e = .returned (.bool true) ∧ Nxt w' P B (K + 1) ∧ Below B w w' := by
  obtain ⟨cc, psv, sv, Q, F, h⟩ := h
  obtain ⟨W, hW⟩ : ∃ W, w.alloc (.cells (opC 6 a b c d s (.slice la ln lc) (.slice na nn nc) (.slice fa fn fc)) 69) = W := ⟨_, rfl⟩
  have kW : Kp [] w W := by rw [← hW]; exact (Kp.refl _ _).alloc _
  have bW : W.heap[w.heap.size]? = some (.cells (opC 6 a b c d s (.slice la ln lc) (.slice na nn nc) (.slice fa fn fc)) 69 (0, 0)) := by rw [← hW]; exact heap_alloc_new _ _
  obtain ⟨o0, o1, o2, o5⟩ := op_cells bW
  have ox : W.cell? ⟨w.heap.size, 3, none⟩ = some (.int .i64 c) ∧ W.cell? ⟨w.heap.size, 4, none⟩ = some (.int .i64 d) ∧ W.cell? ⟨w.heap.size, 6, none⟩ = some (.slice la ln lc) ∧ W.cell? ⟨w.heap.size, 7, none⟩ = some (.slice na nn nc) ∧ W.cell? ⟨w.heap.size, 8, none⟩ = some (.slice fa fn fc) := by simp [World.cell?, bW, opC]
  obtain ⟨o3, o4, o6, o7, o8⟩ := ox
  have hWD := h.kp0 kW
  obtain ⟨p0, _⟩ := sw_c0 hWD.blk
  obtain ⟨ag, cap, es, hag⟩ := owns_forms hWD.ps
  have hnq := hWD.nq
  obtain ⟨nQ, hnQ⟩ : ∃ nQ, Q.length = nQ := ⟨_, rfl⟩
  rw [hnQ] at es hag hnq
  rw [es] at p0
  have hrow := hWD.ps
  rw [es, hnQ] at hrow
  have HROW := hide hrow
  have HWD := hide hWD
  have HH := hide h
  have HKW := hide kW
  have HNQ := hide hnQ
  clear h hWD bW kW es hrow hnQ
  by_cases hq0 : nQ = 0
  · subst hq0
    clear hag
    unfold opA
    go_enter Tryz.func24, Tryz.ntmps24
    unfold opC at hW
    go_wp2_with fail
    go_ret
    exact ⟨rfl, ⟨_, _, _, _, _, HWD.out.up⟩, HKW.out.below HH.out.low (by simp)⟩
  · have hq1 : ((nQ : Int) == 0) = false := by rw [beq_eq_false_iff_ne]; omega
    obtain ⟨r, hr, hpick⟩ := pick_any a nQ ha (by omega) (by omega)
    obtain ⟨g, rfl⟩ := hag (by omega)
    have hrQ : r < Q.length := by rw [HNQ.out]; exact hr
    have hpc := ps_cell HROW.out r hrQ
    have j1 : (0 : Int) ≤ (r : Int) := by omega
    have j2 : (r : Int) < (nQ : Int) := by omega
    obtain ⟨qp, hqp⟩ : ∃ qp, Q[r].p = qp := ⟨_, rfl⟩
    rw [hqp] at hpc
    have HQP := hide hqp
    have HPK := hide hpick
    clear hqp hpick
    unfold opA
    go_enter Tryz.func24, Tryz.ntmps24
    unfold opC at hW
    go_wp2_with fail
    go_quiet ((go_at_call 44; exact Calls.quiet_of_same (HPK.out _)))
    go_wp2_with fail
    have hmv : ∀ m : Nat, Calls Tryz.prog 47 #[opA 6 a b c d s (.slice la ln lc) (.slice na nn nc) (.slice fa fn fc), .pointer (some ⟨qp, 0, none⟩)] (W.drewN m) fun e w' => e = .returned (.bool true) ∧ Nxt w' P B (K + 1) ∧ Below B w w' := by
      intro m
      have kD : Kp [] W (W.drewN m) := (Kp.refl [] W).drewN m
      have h1 := HWD.out.kp0 kD
      rw [← HQP.out]
      refine (moved6 P B K cc psv sv Q F r hrQ a b c d s la ln lc na nn nc fa fn fc (W.drewN m) h1 hK hs).mono ?_
      rintro e w' ⟨rfl, ⟨c', Q', hsw⟩, hbl⟩
      exact ⟨rfl, ⟨_, _, _, _, _, hsw⟩, ((HKW.out.next kD).below HH.out.low (by simp)).trans hbl⟩
    unfold opA at hmv
    refine (hmv _).mono ?_
    rintro e w' ⟨rfl, hn, hbl⟩
    go_wp2_with fail
    go_ret
    exact ⟨rfl, hn, hbl⟩
set_option maxHeartbeats 4000000 in
theorem step7 (P B K : Nat) (a b c d : Int) (s : ByteArray) (la : Option Addr) (ln lc : Nat) (na : Option Addr) (nn nc : Nat) (fa : Option Addr) (fn fc : Nat) (w : World) (h : Nxt w P B K) (hK : K < 1000000) (PlB : B ≤ P) (hs : s.size ≤ 140737488355328) (ha : -9223372036854775808 ≤ a ∧ a ≤ 9223372036854775807) :
    Calls Tryz.prog 24 #[.pointer (some ⟨P, 0, none⟩), opA 7 a b c d s (.slice la ln lc) (.slice na nn nc) (.slice fa fn fc)] w fun e w' => e = .returned (.bool true) ∧ Nxt w' P B (K + 1) ∧ Below B w w' := by
  obtain ⟨cc, psv, sv, Q, F, h⟩ := h
  obtain ⟨W, hW⟩ : ∃ W, w.alloc (.cells (opC 7 a b c d s (.slice la ln lc) (.slice na nn nc) (.slice fa fn fc)) 69) = W := ⟨_, rfl⟩
  have kW : Kp [] w W := by rw [← hW]; exact (Kp.refl _ _).alloc _
  have bW : W.heap[w.heap.size]? = some (.cells (opC 7 a b c d s (.slice la ln lc) (.slice na nn nc) (.slice fa fn fc)) 69 (0, 0)) := by rw [← hW]; exact heap_alloc_new _ _
  obtain ⟨o0, o1, o2, o5⟩ := op_cells bW
  have ox : W.cell? ⟨w.heap.size, 3, none⟩ = some (.int .i64 c) ∧ W.cell? ⟨w.heap.size, 4, none⟩ = some (.int .i64 d) ∧ W.cell? ⟨w.heap.size, 6, none⟩ = some (.slice la ln lc) ∧ W.cell? ⟨w.heap.size, 7, none⟩ = some (.slice na nn nc) ∧ W.cell? ⟨w.heap.size, 8, none⟩ = some (.slice fa fn fc) := by simp [World.cell?, bW, opC]
  obtain ⟨o3, o4, o6, o7, o8⟩ := ox
  have hWD := h.kp0 kW
  obtain ⟨p0, _⟩ := sw_c0 hWD.blk
  obtain ⟨ag, cap, es, hag⟩ := owns_forms hWD.ps
  have hnq := hWD.nq
  obtain ⟨nQ, hnQ⟩ : ∃ nQ, Q.length = nQ := ⟨_, rfl⟩
  rw [hnQ] at es hag hnq
  rw [es] at p0
  have hrow := hWD.ps
  rw [es, hnQ] at hrow
  have HROW := hide hrow
  have HWD := hide hWD
  have HH := hide h
  have HKW := hide kW
  have HNQ := hide hnQ
  clear h hWD bW kW es hrow hnQ
  by_cases hq0 : nQ = 0
  · subst hq0
    clear hag
    unfold opA
    go_enter Tryz.func24, Tryz.ntmps24
    unfold opC at hW
    go_wp2_with fail
    go_ret
    exact ⟨rfl, ⟨_, _, _, _, _, HWD.out.up⟩, HKW.out.below HH.out.low (by simp)⟩
  · have hq1 : ((nQ : Int) == 0) = false := by rw [beq_eq_false_iff_ne]; omega
    obtain ⟨r, hr, hpick⟩ := pick_any a nQ ha (by omega) (by omega)
    obtain ⟨g, rfl⟩ := hag (by omega)
    have hrQ : r < Q.length := by rw [HNQ.out]; exact hr
    have hpc := ps_cell HROW.out r hrQ
    have j1 : (0 : Int) ≤ (r : Int) := by omega
    have j2 : (r : Int) < (nQ : Int) := by omega
    obtain ⟨qp, hqp⟩ : ∃ qp, Q[r].p = qp := ⟨_, rfl⟩
    rw [hqp] at hpc
    have HQP := hide hqp
    have HPK := hide hpick
    clear hqp hpick
    unfold opA
    go_enter Tryz.func24, Tryz.ntmps24
    unfold opC at hW
    go_wp2_with fail
    go_quiet ((go_at_call 44; exact Calls.quiet_of_same (HPK.out _)))
    go_wp2_with fail
    have hmv : ∀ m : Nat, Calls Tryz.prog 47 #[opA 7 a b c d s (.slice la ln lc) (.slice na nn nc) (.slice fa fn fc), .pointer (some ⟨qp, 0, none⟩)] (W.drewN m) fun e w' => e = .returned (.bool true) ∧ Nxt w' P B (K + 1) ∧ Below B w w' := by
      intro m
      have kD : Kp [] W (W.drewN m) := (Kp.refl [] W).drewN m
      have h1 := HWD.out.kp0 kD
      rw [← HQP.out]
      refine (moved7 P B K cc psv sv Q F r hrQ a b c d s la ln lc na nn nc fa fn fc (W.drewN m) h1 hK hs).mono ?_
      rintro e w' ⟨rfl, ⟨c', Q', hsw⟩, hbl⟩
      exact ⟨rfl, ⟨_, _, _, _, _, hsw⟩, ((HKW.out.next kD).below HH.out.low (by simp)).trans hbl⟩
    unfold opA at hmv
    refine (hmv _).mono ?_
    rintro e w' ⟨rfl, hn, hbl⟩
    go_wp2_with fail
    go_ret
    exact ⟨rfl, hn, hbl⟩
set_option maxHeartbeats 4000000 in
theorem step11 (P B K : Nat) (a b c d : Int) (s : ByteArray) (la : Option Addr) (ln lc : Nat) (na : Option Addr) (nn nc : Nat) (fa : Option Addr) (fn fc : Nat) (w : World) (h : Nxt w P B K) (hK : K < 1000000) (PlB : B ≤ P) (hs : s.size ≤ 140737488355328) (ha : -9223372036854775808 ≤ a ∧ a ≤ 9223372036854775807) :
    Calls Tryz.prog 24 #[.pointer (some ⟨P, 0, none⟩), opA 11 a b c d s (.slice la ln lc) (.slice na nn nc) (.slice fa fn fc)] w fun e w' => e = .returned (.bool true) ∧ Nxt w' P B (K + 1) ∧ Below B w w' := by
  obtain ⟨cc, psv, sv, Q, F, h⟩ := h
  obtain ⟨W, hW⟩ : ∃ W, w.alloc (.cells (opC 11 a b c d s (.slice la ln lc) (.slice na nn nc) (.slice fa fn fc)) 69) = W := ⟨_, rfl⟩
  have kW : Kp [] w W := by rw [← hW]; exact (Kp.refl _ _).alloc _
  have bW : W.heap[w.heap.size]? = some (.cells (opC 11 a b c d s (.slice la ln lc) (.slice na nn nc) (.slice fa fn fc)) 69 (0, 0)) := by rw [← hW]; exact heap_alloc_new _ _
  obtain ⟨o0, o1, o2, o5⟩ := op_cells bW
  have ox : W.cell? ⟨w.heap.size, 3, none⟩ = some (.int .i64 c) ∧ W.cell? ⟨w.heap.size, 4, none⟩ = some (.int .i64 d) ∧ W.cell? ⟨w.heap.size, 6, none⟩ = some (.slice la ln lc) ∧ W.cell? ⟨w.heap.size, 7, none⟩ = some (.slice na nn nc) ∧ W.cell? ⟨w.heap.size, 8, none⟩ = some (.slice fa fn fc) := by simp [World.cell?, bW, opC]
  obtain ⟨o3, o4, o6, o7, o8⟩ := ox
  have hWD := h.kp0 kW
  obtain ⟨p0, _⟩ := sw_c0 hWD.blk
  obtain ⟨ag, cap, es, hag⟩ := owns_forms hWD.ps
  have hnq := hWD.nq
  obtain ⟨nQ, hnQ⟩ : ∃ nQ, Q.length = nQ := ⟨_, rfl⟩
  rw [hnQ] at es hag hnq
  rw [es] at p0
  have hrow := hWD.ps
  rw [es, hnQ] at hrow
  have HROW := hide hrow
  have HWD := hide hWD
  have HH := hide h
  have HKW := hide kW
  have HNQ := hide hnQ
  clear h hWD bW kW es hrow hnQ
  by_cases hq0 : nQ = 0
  · subst hq0
    clear hag
    unfold opA
    go_enter Tryz.func24, Tryz.ntmps24
    unfold opC at hW
    go_wp2_with fail
    go_ret
    exact ⟨rfl, ⟨_, _, _, _, _, HWD.out.up⟩, HKW.out.below HH.out.low (by simp)⟩
  · have hq1 : ((nQ : Int) == 0) = false := by rw [beq_eq_false_iff_ne]; omega
    obtain ⟨r, hr, hpick⟩ := pick_any a nQ ha (by omega) (by omega)
    obtain ⟨g, rfl⟩ := hag (by omega)
    have hrQ : r < Q.length := by rw [HNQ.out]; exact hr
    have hpc := ps_cell HROW.out r hrQ
    have j1 : (0 : Int) ≤ (r : Int) := by omega
    have j2 : (r : Int) < (nQ : Int) := by omega
    obtain ⟨qp, hqp⟩ : ∃ qp, Q[r].p = qp := ⟨_, rfl⟩
    rw [hqp] at hpc
    have HQP := hide hqp
    have HPK := hide hpick
    clear hqp hpick
    unfold opA
    go_enter Tryz.func24, Tryz.ntmps24
    unfold opC at hW
    go_wp2_with fail
    go_quiet ((go_at_call 44; exact Calls.quiet_of_same (HPK.out _)))
    go_wp2_with fail
    have hmv : ∀ m : Nat, Calls Tryz.prog 47 #[opA 11 a b c d s (.slice la ln lc) (.slice na nn nc) (.slice fa fn fc), .pointer (some ⟨qp, 0, none⟩)] (W.drewN m) fun e w' => e = .returned (.bool true) ∧ Nxt w' P B (K + 1) ∧ Below B w w' := by
      intro m
      have kD : Kp [] W (W.drewN m) := (Kp.refl [] W).drewN m
      have h1 := HWD.out.kp0 kD
      rw [← HQP.out]
      refine (moved11 P B K cc psv sv Q F r hrQ a b c d s la ln lc na nn nc fa fn fc (W.drewN m) h1 hK hs).mono ?_
      rintro e w' ⟨rfl, ⟨c', Q', hsw⟩, hbl⟩
      exact ⟨rfl, ⟨_, _, _, _, _, hsw⟩, ((HKW.out.next kD).below HH.out.low (by simp)).trans hbl⟩
    unfold opA at hmv
    refine (hmv _).mono ?_
    rintro e w' ⟨rfl, hn, hbl⟩
    go_wp2_with fail
    go_ret
    exact ⟨rfl, hn, hbl⟩
set_option maxHeartbeats 4000000 in
theorem step10 (P B K : Nat) (a b c d : Int) (s : ByteArray) (la : Option Addr) (ln lc : Nat) (na : Option Addr) (nn nc : Nat) (fa : Option Addr) (fn fc : Nat) (w : World) (h : Nxt w P B K) (hK : K < 1000000) (PlB : B ≤ P) (hs : s.size ≤ 140737488355328) (ha : -9223372036854775808 ≤ a ∧ a ≤ 9223372036854775807) :
    Calls Tryz.prog 24 #[.pointer (some ⟨P, 0, none⟩), opA 10 a b c d s (.slice la ln lc) (.slice na nn nc) (.slice fa fn fc)] w fun e w' => e = .returned (.bool true) ∧ Nxt w' P B (K + 1) ∧ Below B w w' := by
  obtain ⟨cc, psv, sv, Q, F, h⟩ := h
  obtain ⟨W, hW⟩ : ∃ W, w.alloc (.cells (opC 10 a b c d s (.slice la ln lc) (.slice na nn nc) (.slice fa fn fc)) 69) = W := ⟨_, rfl⟩
  have kW : Kp [] w W := by rw [← hW]; exact (Kp.refl _ _).alloc _
  have bW : W.heap[w.heap.size]? = some (.cells (opC 10 a b c d s (.slice la ln lc) (.slice na nn nc) (.slice fa fn fc)) 69 (0, 0)) := by rw [← hW]; exact heap_alloc_new _ _
  obtain ⟨o0, o1, o2, o5⟩ := op_cells bW
  have ox : W.cell? ⟨w.heap.size, 3, none⟩ = some (.int .i64 c) ∧ W.cell? ⟨w.heap.size, 4, none⟩ = some (.int .i64 d) ∧ W.cell? ⟨w.heap.size, 6, none⟩ = some (.slice la ln lc) ∧ W.cell? ⟨w.heap.size, 7, none⟩ = some (.slice na nn nc) ∧ W.cell? ⟨w.heap.size, 8, none⟩ = some (.slice fa fn fc) := by simp [World.cell?, bW, opC]
  obtain ⟨o3, o4, o6, o7, o8⟩ := ox
  have hWD := h.kp0 kW
  obtain ⟨p0, _⟩ := sw_c0 hWD.blk
  obtain ⟨ag, cap, es, hag⟩ := owns_forms hWD.ps
  have hnq := hWD.nq
  obtain ⟨nQ, hnQ⟩ : ∃ nQ, Q.length = nQ := ⟨_, rfl⟩
  rw [hnQ] at es hag hnq
  rw [es] at p0
  have hrow := hWD.ps
  rw [es, hnQ] at hrow
  have HROW := hide hrow
  have HWD := hide hWD
  have HH := hide h
  have HKW := hide kW
  have HNQ := hide hnQ
  clear h hWD bW kW es hrow hnQ
  by_cases hq0 : nQ = 0
  · subst hq0
    clear hag
    unfold opA
    go_enter Tryz.func24, Tryz.ntmps24
    unfold opC at hW
    go_wp2_with fail
    go_ret
    exact ⟨rfl, ⟨_, _, _, _, _, HWD.out.up⟩, HKW.out.below HH.out.low (by simp)⟩
  · have hq1 : ((nQ : Int) == 0) = false := by rw [beq_eq_false_iff_ne]; omega
    obtain ⟨r, hr, hpick⟩ := pick_any a nQ ha (by omega) (by omega)
    obtain ⟨g, rfl⟩ := hag (by omega)
    have hrQ : r < Q.length := by rw [HNQ.out]; exact hr
    have hpc := ps_cell HROW.out r hrQ
    have j1 : (0 : Int) ≤ (r : Int) := by omega
    have j2 : (r : Int) < (nQ : Int) := by omega
    obtain ⟨qp, hqp⟩ : ∃ qp, Q[r].p = qp := ⟨_, rfl⟩
    rw [hqp] at hpc
    have HQP := hide hqp
    have HPK := hide hpick
    clear hqp hpick
    unfold opA
    go_enter Tryz.func24, Tryz.ntmps24
    unfold opC at hW
    go_wp2_with fail
    go_quiet ((go_at_call 44; exact Calls.quiet_of_same (HPK.out _)))
    go_wp2_with fail
    have hmv : ∀ m : Nat, Calls Tryz.prog 46 #[.pointer (some ⟨P, 0, none⟩), opA 10 a b c d s (.slice la ln lc) (.slice na nn nc) (.slice fa fn fc), .pointer (some ⟨qp, 0, none⟩)] (W.drewN m) fun e w' => e = .returned (.bool true) ∧ Nxt w' P B (K + 1) ∧ Below B w w' := by
      intro m
      have kD : Kp [] W (W.drewN m) := (Kp.refl [] W).drewN m
      have h1 := HWD.out.kp0 kD
      rw [← HQP.out]
      refine (asked10 P B K cc psv sv Q F r hrQ a b c d s la ln lc na nn nc fa fn fc (W.drewN m) h1 hK PlB).mono ?_
      rintro e w' ⟨rfl, ⟨c', sv', F', hsw⟩, hbl⟩
      exact ⟨rfl, ⟨_, _, _, _, _, hsw⟩, ((HKW.out.next kD).below HH.out.low (by simp)).trans hbl⟩
    unfold opA at hmv
    refine (hmv _).mono ?_
    rintro e w' ⟨rfl, hn, hbl⟩
    go_wp2_with fail
    go_ret
    exact ⟨rfl, hn, hbl⟩
set_option maxHeartbeats 4000000 in
theorem step5 (P B K : Nat) (a b c d : Int) (s : ByteArray) (la : Option Addr) (ln lc : Nat) (na : Option Addr) (nn nc : Nat) (fa : Option Addr) (fn fc : Nat) (w : World) (h : Nxt w P B K) (hK : K < 1000000) (PlB : B ≤ P) :
    Calls Tryz.prog 24 #[.pointer (some ⟨P, 0, none⟩), opA 5 a b c d s (.slice la ln lc) (.slice na nn nc) (.slice fa fn fc)] w fun e w' => e = .returned (.bool true) ∧ Nxt w' P B (K + 1) ∧ Below B w w' := by
  obtain ⟨cc, psv, sv, Q, F, h⟩ := h
  obtain ⟨W, hW⟩ : ∃ W, w.alloc (.cells (opC 5 a b c d s (.slice la ln lc) (.slice na nn nc) (.slice fa fn fc)) 69) = W := ⟨_, rfl⟩
  have kW : Kp [] w W := by rw [← hW]; exact (Kp.refl _ _).alloc _
  have bW : W.heap[w.heap.size]? = some (.cells (opC 5 a b c d s (.slice la ln lc) (.slice na nn nc) (.slice fa fn fc)) 69 (0, 0)) := by rw [← hW]; exact heap_alloc_new _ _
  obtain ⟨o0, o1, o2, o5⟩ := op_cells bW
  have ox : W.cell? ⟨w.heap.size, 3, none⟩ = some (.int .i64 c) ∧ W.cell? ⟨w.heap.size, 4, none⟩ = some (.int .i64 d) ∧ W.cell? ⟨w.heap.size, 6, none⟩ = some (.slice la ln lc) ∧ W.cell? ⟨w.heap.size, 7, none⟩ = some (.slice na nn nc) ∧ W.cell? ⟨w.heap.size, 8, none⟩ = some (.slice fa fn fc) := by simp [World.cell?, bW, opC]
  obtain ⟨o3, o4, o6, o7, o8⟩ := ox
  have hfree := free5 P B K cc psv sv Q F a b c d s la ln lc na nn nc fa fn fc W (h.kp0 kW) hK PlB
  have HH := hide h
  have HKW := hide kW
  clear h bW kW
  unfold opA at hfree ⊢
  go_enter Tryz.func24, Tryz.ntmps24
  unfold opC at hW
  go_wp2_with fail
  refine hfree.mono ?_
  rintro e w' ⟨rfl, ⟨c', psv', Q', hsw, _⟩, hbl⟩
  have HS := hide hsw
  clear hsw hfree
  go_wp2_with fail
  go_ret
  exact ⟨rfl, ⟨_, _, _, _, _, HS.out⟩, (HKW.out.below HH.out.low (by simp)).trans hbl⟩
end Go.Proofs.YtpdoacfiiledcaaGreatDoor.Pak

set_option linter.unusedVariables false
set_option linter.unusedSimpArgs false
set_option maxRecDepth 100000
namespace Go.Proofs.YtpdoacfiiledcaaGreatDoor.Pak
open Go.RowKit Go.Proofs.YtpdoacfiiledcaaGreatDoor Go.Proofs.YtpdoacfiiledcaaGreatDoor.Spl SiftM

theorem seg_cells {w : World} {B g cap k n : Nat} {F : List Own.E1} {x : Own.E1} (h1 : w.ownsRow B 117 5 (.slice (some ⟨g, 0, none⟩) n cap) n (rowV F)) (hn : F.length = n) (hk : F[k]? = some x) :
    w.cell? ⟨g, k * 5, none⟩ = some x.l ∧ w.cell? ⟨g, k * 5 + 1, none⟩ = some x.o ∧ w.cell? ⟨g, k * 5 + 2, none⟩ = some x.t ∧ w.cell? ⟨g, k * 5 + 3, none⟩ = some x.h ∧ w.cell? ⟨g, k * 5 + 4, none⟩ = some (.int .i64 (k : Int)) := by
  have hlt : k < F.length := by
    rcases Nat.lt_or_ge k F.length with h' | h'
    · exact h'
    · rw [List.getElem?_eq_none h'] at hk; simp at hk
  have key : ∀ j, j < 5 → w.cell? ⟨g, k * 5 + j, none⟩ = (oneV x (0 + k))[j]? := fun j hj => by
    rw [h1.cellAt (k * 5 + j) (by omega)]
    exact Spl.rowF_get F k 0 x hk j hj
  have k0 := key 0 (by omega)
  have k1 := key 1 (by omega)
  have k2 := key 2 (by omega)
  have k3 := key 3 (by omega)
  have k4 := key 4 (by omega)
  rw [Nat.zero_add] at k4
  exact ⟨k0, k1, k2, k3, k4⟩
theorem sw_cs {w : World} {P : Nat} {psv sv : Value} (h : w.heap[P]? = some (.cells #[psv, .slice none 0 0, .slice none 0 0, .slice none 0 0, sv, .slice none 0 0] 64 (0, 0))) : w.cell? ⟨P, 1, none⟩ = some (.slice none 0 0) ∧ w.cell? ⟨P, 2, none⟩ = some (.slice none 0 0) ∧ w.cell? ⟨P, 3, none⟩ = some (.slice none 0 0) ∧ w.cell? ⟨P, 4, none⟩ = some sv ∧ w.cell? ⟨P, 5, none⟩ = some (.slice none 0 0) := by
  simp [World.cell?, h]
set_option maxHeartbeats 2000000 in
/-- Nothing but its own mark stands in each list. -/
theorem looksG (P B K : Nat) (c : Nat → Nat) (psv sv : Value) (Q : List PrS) (F : List Own.E1) (w : World) (h : SW w P B K c psv sv Q F) (hK : K ≤ 1000000) :
    Calls Tryz.prog 25 #[.pointer (some ⟨P, 1, none⟩)] w fun e w' => e = .returned (.bool true) ∧ Below w.heap.size w w' := by
  obtain ⟨a, cap, es, hag⟩ := owns_forms h.segs
  have hnf := h.nf
  obtain ⟨n, hn⟩ : ∃ n, F.length = n := ⟨_, rfl⟩
  rw [hn] at es hag hnf
  have hcs : Hid (∀ w', Below w.heap.size w w' → w'.cell? ⟨P, 1, none⟩ = some (.slice none 0 0) ∧ w'.cell? ⟨P, 2, none⟩ = some (.slice none 0 0) ∧ w'.cell? ⟨P, 3, none⟩ = some (.slice none 0 0) ∧ w'.cell? ⟨P, 4, none⟩ = some (.slice a n cap) ∧ w'.cell? ⟨P, 5, none⟩ = some (.slice none 0 0)) := by
    intro w' hb
    have := sw_cs ((Kp.of_below [] hb).heap h.blk (by simp))
    rw [es] at this
    exact this
  have HH := hide h
  have HES := hide es
  have HN := hide hn
  clear h es hn
  obtain ⟨c1, c2, c3, c4, c5⟩ := hcs.out w (Below.refl _ _)
  go_enter Tryz.func25, Tryz.ntmps25
  go_wp2_with fail
  refine wp_loop_rounds 1 ?_
  rw [rounds_succ]
  go_wp2_with fail
  refine wp_loop_rounds 1 ?_
  rw [rounds_succ]
  go_wp2_with fail
  refine wp_loop_rounds 1 ?_
  rw [rounds_succ]
  go_wp2_with fail
  clear c1 c2 c3 c4 c5
  go_loopw [3, 10] (fun o i wr => ∃ k : Nat, k ≤ n ∧ i = .int .i64 k ∧ o = .bool true ∧ Below w.heap.size w wr) (fun _ i _ => n - (intOf i).toNat)
  case atStart => exact ⟨0, Nat.zero_le _, rfl, rfl, Below.refl _ _⟩
  case round =>
    obtain ⟨k, hk, rfl, rfl, hb⟩ := hrel
    have hbz := hb.size
    obtain ⟨c1, c2, c3, c4, c5⟩ := hcs.out wr hb
    by_cases hlt : k < n
    · obtain ⟨g, rfl⟩ := hag (by omega)
      have hS := HH.out.kp0 (Kp.of_below [] hb)
      have hrow := hS.segs
      rw [HES.out, HN.out] at hrow
      obtain ⟨x, hx⟩ : ∃ x, F[k]? = some x := ⟨_, List.getElem?_eq_getElem (by rw [HN.out]; exact hlt)⟩
      obtain ⟨r0, r1, r2, r3, r4⟩ := seg_cells hrow HN.out hx
      have hkept := hide (hS.kept k x hx)
      have h1 : (k : Int) < (n : Int) := by omega
      have h0 : (0 : Int) ≤ (k : Int) := by omega
      clear hrow hx c1 c2 c3 c5 hS
      go_wp2_with fail
      refine (Own.stillG_any x.n k x.l x.o x.t x.h _ (by omega) hkept.out.2 hkept.out.1).mono ?_
      rintro e w1 ⟨rfl, hb1⟩
      go_wp2_with fail
      exact ⟨⟨k + 1, by omega, by go_num, rfl, hb.trans (hb1.mono hbz)⟩, by simp [intOf]; omega⟩
    · clear c1 c2 c3
      go_wp2_with fail
      refine wp_loop_rounds 1 ?_
      rw [rounds_succ]
      go_wp2_with fail
      go_ret
      exact ⟨rfl, hb⟩
end Go.Proofs.YtpdoacfiiledcaaGreatDoor.Pak

namespace Go.Proofs.YtpdoacfiiledcaaGreatDoor
open Go.RowKit ChkM
set_option linter.unusedVariables false

/-- The steps of a script, as they lie in memory. -/
def OpAt (w : World) (b o : Nat) (k a b' c d : Int) (s : ByteArray) (l n f : Value) : Prop :=
  w.cell? ⟨b, o, none⟩ = some (.int .i64 k) ∧ w.cell? ⟨b, o + 1, none⟩ = some (.int .i64 a) ∧ w.cell? ⟨b, o + 2, none⟩ = some (.int .i64 b') ∧ w.cell? ⟨b, o + 3, none⟩ = some (.int .i64 c) ∧ w.cell? ⟨b, o + 4, none⟩ = some (.int .i64 d) ∧
  w.cell? ⟨b, o + 5, none⟩ = some (.string s) ∧ w.cell? ⟨b, o + 6, none⟩ = some l ∧ w.cell? ⟨b, o + 7, none⟩ = some n ∧ w.cell? ⟨b, o + 8, none⟩ = some f
end Go.Proofs.YtpdoacfiiledcaaGreatDoor

