import Derived.Test.YtpdoacfiiledcaaPakJ
import Derived.Deep.RegionHeld3
import Derived.Stop.BytesEq
namespace Go.Proofs.Ytpdoacfiiledcaa.Pak
open Go.RowKit Go.Proofs.Ytpdoacfiiledcaa SiftM
set_option linter.unusedVariables false

def unsealF (l : List UInt8) : Option (List UInt8) :=
  if l.length < 4 then none else if sumB (l.take (l.length - 4)) = l.drop (l.length - 4) then some (l.take (l.length - 4)) else none

set_option maxHeartbeats 1000000 in
set_option maxRecDepth 100000 in
theorem unseal_short (a : Option Addr) (cap : Nat) (l : List UInt8) (w : World) (h4 : l.length < 4) :
    Calls Try.prog 35 #[.slice a l.length cap] w fun e w' => ∃ R, e = .returned (.pointer (some ⟨R, 0, none⟩)) ∧ Rd w' R w.heap.size none ∧ Kp [] w w' := by
  generalize l.length = n at *
  have hd : ((n : Int) - 4 < 0) := by omega
  have hd2 : decide ((n : Int) - 4 < 0) = true := by simpa using hd
  go_enter Try.func35, Try.ntmps35
  go_wp2_with fail
  go_region
  go_wp2_with fail
  go_ret
  refine ⟨_, rfl, ⟨Nat.le_refl _, heap_alloc_new w.drew _⟩, ((Kp.refl [] w).drewN 1).alloc _⟩

theorem arr_at (g o c : Nat) (w : World) : (Instr.arrayAt 104 (.slice (some ⟨g, o, none⟩) 4 c)).run Try.prog w = .ok (.pointer (some ⟨g, o, none⟩)) w := by
  simp [Instr.arrayAt, run_underlying Try.underlying104]

theorem size5 (w : World) : (sizeOf 5).run Try.prog w = .ok 1 w := by kernel_rfl
theorem slice_tail (g off n cap : Nat) (w : World) (h : n + 4 ≤ cap) : (Instr.slice 36 (.slice (some ⟨g, off, none⟩) (n + 4) cap) (some (.int .i64 (n : Int))) none none).run Try.prog w = .ok (.slice (some ⟨g, off + n, none⟩) 4 (cap - n)) w := by
  have ht' : Try.prog.underlying 36 = some (.slice (Try.prog.elem 36)) := by simp [Program.elem, Try.underlying36]
  have he : Try.prog.elem 36 = 5 := by simp [Program.elem, Try.underlying36]
  rw [run_slice_l w 36 _ _ _ ht' .i64 _ (by omega) (by omega), he, size5]
  have hne : ¬ cap = n := by omega
  by_cases h0 : n = 0
  · subst h0
    simp [Result.andThen, sliced, Addr.add, hne]
  · simp [Result.andThen, sliced, Addr.add, hne, h0]
theorem arr_eq (s0 s1 s2 s3 t0 t1 t2 t3 : UInt8) (w : World) : (Op.equalIn 10000 104 (.agg #[.int .u8 (s0.toNat : Int), .int .u8 (s1.toNat : Int), .int .u8 (s2.toNat : Int), .int .u8 (s3.toNat : Int)]) (.agg #[.int .u8 (t0.toNat : Int), .int .u8 (t1.toNat : Int), .int .u8 (t2.toNat : Int), .int .u8 (t3.toNat : Int)])).run Try.prog w = .ok ([s0, s1, s2, s3] == [t0, t1, t2, t3]) w :=
  run_equalIn_bytes (P := Try.prog) w 9998 104 5 4 Try.underlying104 Try.underlying5 size5 [s0, s1, s2, s3] [t0, t1, t2, t3] rfl rfl

set_option maxHeartbeats 1000000 in
set_option maxRecDepth 100000 in
theorem unseal_long (g off cap : Nat) (d : List UInt8) (t0 t1 t2 t3 : UInt8) (w : World) (hg : g < w.heap.size) (hc : ∀ j (hj : j < (d ++ [t0, t1, t2, t3]).length), w.cell? ⟨g, off + j, none⟩ = some (.int .u8 ((d ++ [t0, t1, t2, t3])[j].toNat : Int))) (hl : d.length ≤ 1000000) (hcap : d.length + 4 ≤ cap) (hcap2 : cap ≤ 9223372036854775807) :
    Calls Try.prog 35 #[.slice (some ⟨g, off, none⟩) (d.length + 4) cap] w fun e w' => ∃ R, e = .returned (.pointer (some ⟨R, 0, none⟩)) ∧ Rd w' R w.heap.size (if sumB d = [t0, t1, t2, t3] then some d else none) ∧ Kp [] w w' := by
  have hv : Vw w w.heap.size (some ⟨g, off, none⟩) d := .inr ⟨g, off, rfl, hg, fun j hj => by
    rw [hc j (by simp; omega)]
    rw [List.getElem_append_left hj]⟩
  have hc0 := hc d.length (by simp)
  have hc1 := hc (d.length + 1) (by simp)
  have hc2 := hc (d.length + 2) (by simp)
  have hc3 := hc (d.length + 3) (by simp)
  simp at hc0 hc1 hc2 hc3
  rw [← Nat.add_assoc] at hc1 hc2 hc3
  have hsum := hide (fun w' (h : Vw w' w'.heap.size (some ⟨g, off, none⟩) d) => sum_any (some ⟨g, off, none⟩) cap d w' h (by omega))
  obtain ⟨s0, s1, s2, s3, hs⟩ : ∃ s0 s1 s2 s3, sumB d = [s0, s1, s2, s3] := ⟨_, _, _, _, rfl⟩
  have hsA : sumA d = .agg #[.int .u8 (s0.toNat : Int), .int .u8 (s1.toNat : Int), .int .u8 (s2.toNat : Int), .int .u8 (s3.toNat : Int)] := by
    unfold sumA; rw [← sumB_V, hs]; rfl
  rw [hsA] at hsum
  rw [hs]
  have heq := fun w' => arr_eq s0 s1 s2 s3 t0 t1 t2 t3 w'
  obtain ⟨b, hb⟩ : ∃ b, ([s0, s1, s2, s3] == [t0, t1, t2, t3]) = b := ⟨_, rfl⟩
  rw [hb] at heq
  have HB : Hid ((if [s0, s1, s2, s3] = [t0, t1, t2, t3] then some d else none) = if b = true then some d else none) := by
    show _ = _
    rw [← hb]
    simp only [beq_iff_eq]
  obtain ⟨res, hres⟩ : ∃ res, (if [s0, s1, s2, s3] = [t0, t1, t2, t3] then some d else none) = res := ⟨_, rfl⟩
  rw [hres] at HB ⊢
  clear hres hb
  have HS := hide hs
  clear hs hsA
  obtain ⟨n, hn⟩ : ∃ n, d.length = n := ⟨_, rfl⟩
  rw [hn] at hc0 hc1 hc2 hc3 hsum hl hcap ⊢
  have HN := hide hn
  have hst := fun w' => slice_tail g off n cap w' hcap
  have harr := fun w' => arr_at g (off + n) (cap - n) w'
  have HVd : Hid (Vw w.drew w.drew.heap.size (some ⟨g, off, none⟩) d) := hv
  have HV := hide hv
  clear hc hv hn
  have hd : ¬ ((n : Int) < 0) := by omega
  have hd2 : decide ((n : Int) < 0) = false := by simp
  have hI1 : (0 : Int) ≤ (n : Int) := by omega
  have hI2 : (n : Int) ≤ (cap : Int) := by omega
  have hI3 : (n : Int) ≤ ((n + 4 : Nat) : Int) := by omega
  have hI4 : ((n + 4 : Nat) : Int) ≤ (cap : Int) := by omega
  have hI5 : n ≤ cap := by omega
  have hI6 : ¬ cap = n := by omega
  have hI7 : ¬ cap < n := by omega
  have hI8 : n ≤ n + 4 := by omega
  go_enter Try.func35, Try.ntmps35
  go_wp2_with fail
  go_region_held3 (fun w2 => w2.cell? ⟨g, off + n, none⟩ = some (.int .u8 (t0.toNat : Int)) ∧ w2.cell? ⟨g, off + n + 1, none⟩ = some (.int .u8 (t1.toNat : Int)) ∧ w2.cell? ⟨g, off + n + 2, none⟩ = some (.int .u8 (t2.toNat : Int)) ∧ w2.cell? ⟨g, off + n + 3, none⟩ = some (.int .u8 (t3.toNat : Int))) (first | (exact ⟨hk1.cellv hc0 (by simp), hk1.cellv hc1 (by simp), hk1.cellv hc2 (by simp), hk1.cellv hc3 (by simp)⟩) | go_keep)
    ((go_at_call 51; refine (hsum.out _ HVd.out).mono ?_; rintro e w1 ⟨rfl, hk1⟩))
  all_goals
    have kp : Kp [] w w1 := ⟨hk1.os, hk1.tape, hk1.output, hk1.size, hk1.block⟩
    have hsz := kp.size
    clear heq hk1
    cases b
    · go_wp2_with fail
      go_ret
      rw [HB.out]
      exact ⟨_, rfl, ⟨hsz, heap_alloc_new w1 _⟩, kp.alloc _⟩
    · go_wp2_with fail
      go_ret
      rw [HB.out]
      refine ⟨_, rfl, ⟨hsz, _, cap, ?_, vw_kp HV.out (kp.alloc _) (by simp), by rw [HN.out]; omega, by omega⟩, kp.alloc _⟩
      rw [HN.out]
      exact heap_alloc_new w1 _

/-- Unseal, at whatever bytes. -/
theorem unseal_any (a : Option Addr) (cap : Nat) (l : List UInt8) (w : World) (hv : Vw w w.heap.size a l) (hl : l.length ≤ 1000000) (hc : l.length ≤ cap) (hc2 : cap ≤ 9223372036854775807) :
    Calls Try.prog 35 #[.slice a l.length cap] w fun e w' => ∃ R, e = .returned (.pointer (some ⟨R, 0, none⟩)) ∧ Rd w' R w.heap.size (unsealF l) ∧ Kp [] w w' := by
  by_cases h4 : l.length < 4
  · have e : unsealF l = none := by unfold unsealF; rw [if_pos h4]
    rw [e]
    exact unseal_short a cap l w h4
  · rcases hv with ⟨rfl, _⟩ | ⟨g, off, rfl, hg, hcell⟩
    · simp at h4
    · have hd : (l.drop (l.length - 4)).length = 4 := by simp; omega
      obtain ⟨t0, t1, t2, t3, ht⟩ : ∃ t0 t1 t2 t3, l.drop (l.length - 4) = [t0, t1, t2, t3] := by
        match hm : l.drop (l.length - 4), hd with
        | [t0, t1, t2, t3], _ => exact ⟨t0, t1, t2, t3, rfl⟩
      have e : unsealF l = if sumB (l.take (l.length - 4)) = [t0, t1, t2, t3] then some (l.take (l.length - 4)) else none := by unfold unsealF; rw [if_neg h4, ht]
      rw [e]
      have hll : l = l.take (l.length - 4) ++ [t0, t1, t2, t3] := by rw [← ht, List.take_append_drop]
      have hlen : (l.take (l.length - 4)).length + 4 = l.length := by simp; omega
      have := unseal_long g off cap (l.take (l.length - 4)) t0 t1 t2 t3 w hg (by
        intro j hj
        have hj' : j < l.length := by rw [hll]; exact hj
        have h2 := hcell j hj'
        rw [h2]
        congr 3
        congr 1
        congr 1) (by omega) (by omega) hc2
      rw [hlen] at this
      exact this
end Go.Proofs.Ytpdoacfiiledcaa.Pak
