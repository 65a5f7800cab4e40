import Derived.Test.YtpdoacfiiledcaaPakC
import Derived.OwnWalk
namespace Go.Proofs.Ytpdoacfiiledcaa.Pak
open Go.RowKit Go.Proofs.Ytpdoacfiiledcaa SiftM
set_option linter.unusedVariables false

set_option maxHeartbeats 400000 in
theorem done_rd (R B : Nat) (st : Option (List UInt8)) (w : World) (h : Rd w R B st) :
    Calls Try.prog 37 #[.pointer (some ⟨R, 0, none⟩)] w fun e w' => e = .returned (.bool (decide (st = some []))) ∧ w' = w := by
  cases st with
  | none =>
    obtain ⟨c0, c1, f0, f1⟩ := rd_cells h.2
    clear h
    go_enter Try.func37, Try.ntmps37
    go_wp2_with fail
    go_ret
    exact ⟨rfl, rfl⟩
  | some l =>
    obtain ⟨_, a, cap, hb, _⟩ := h
    obtain ⟨c0, c1, f0, f1⟩ := rd_cells hb
    clear hb
    have e : Hid ((((l.length : Nat) : Int) == 0) = decide (some l = some [])) := by
      show _ = _
      cases l with
      | nil => rfl
      | cons a r => simp; omega
    generalize hd : decide (some l = some []) = d at *
    have Hd := hide hd
    clear hd
    go_enter Try.func37, Try.ntmps37
    go_wp2_with fail
    go_ret
    exact ⟨ret_bool (by rw [← e.out]), rfl⟩

/-- What k rounds of a rising list give: the entries, how far it has come, what is left. -/
def riseN (most : Int) (st : Option (List UInt8)) : Nat → List Nat × Nat × Option (List UInt8)
  | 0 => ([], 0, st)
  | k + 1 => ((riseN most st k).1 ++ [(riseN most st k).2.1 + (numF (riseN most st k).2.2 0 (most - (riseN most st k).2.1)).1],
      (riseN most st k).2.1 + (numF (riseN most st k).2.2 0 (most - (riseN most st k).2.1)).1 + 1, (numF (riseN most st k).2.2 0 (most - (riseN most st k).2.1)).2)
theorem riseN_len (most : Int) (st : Option (List UInt8)) : ∀ k, (riseN most st k).1.length = k
  | 0 => rfl
  | k + 1 => by simp [riseN, riseN_len most st k]
theorem riseN_le (most : Int) (st : Option (List UInt8)) : ∀ k, (riseN most st k).2.1 ≤ k * 268435456
  | 0 => by simp [riseN]
  | k + 1 => by
    have h := riseN_le most st k
    have h2 := numF_lt (riseN most st k).2.2 0 (most - (riseN most st k).2.1)
    simp only [riseN]; omega

def intV (l : List Nat) : List Value := l.map fun (n : Nat) => Value.int .i64 (n : Int)
theorem intV_length (l : List Nat) : (intV l).length = l.length := by simp [intV]

theorem made_one (z : Value) (n : Nat) : madeCells #[z] n = Array.replicate n z := by
  apply Array.ext
  · simp [size_madeCells]
  · intro i h1 h2
    simp [madeCells]
    have : i % 1 = 0 := by omega
    simp [this]

theorem info3 : (Try.prog.info? 3).map (fun i => (i.zero, i.size, i.bytes)) = some (some (.int .i64 0), 1, 8) := by kernel_rfl
theorem make_ints (c : Nat) (w : World) (hc : c ≤ 1000000) : (Instr.makeSlice 22 (.int .i64 c) (.int .i64 c)).run Try.prog w = .ok (.slice (some ⟨w.heap.size, 0, none⟩) c c) (w.alloc (.cells (Array.replicate c (Value.int .i64 0)) 3)) := by
  obtain ⟨i0, hi, hz0, hz1, hz2⟩ := info_parts info3
  have := run_make (P := Try.prog) w 22 3 i0 (.int .i64 0) Try.underlying22 hi hz0 .i64 .i64 c c (by omega) (by omega) (by rw [hz2]; omega) (by omega)
  rw [hz1, Nat.mul_one] at this
  simp only [Int.toNat_natCast] at this
  rw [this, show (Value.int .i64 0).cells = #[.int .i64 0] from rfl, made_one]

/-- The list's block behind k rounds. -/
def part (l : List Nat) (c : Nat) : Array Value := (intV l ++ List.replicate (c - l.length) (Value.int .i64 0)).toArray
theorem part_set (l : List Nat) (c n : Nat) (h : l.length < c) : (part l c).setIfInBounds l.length (.int .i64 (n : Int)) = part (l ++ [n]) c := by
  unfold part
  rw [List.setIfInBounds_toArray]
  congr 1
  obtain ⟨d, hd⟩ : ∃ d, c - l.length = d + 1 := ⟨c - l.length - 1, by omega⟩
  rw [List.set_append_right _ _ (by rw [intV_length]; omega), intV_length, Nat.sub_self, hd, List.replicate_succ, List.set_cons_zero]
  rw [show c - (l ++ [n]).length = d by simp; omega]
  simp [intV]
theorem part_cell {w : World} {L c : Nat} {l : List Nat} (h : w.heap[L]? = some (.cells (part l c) 3 (0, 0))) (hl : l.length < c) : w.cell? ⟨L, l.length, none⟩ = some (.int .i64 0) ∧ w.frozen? ⟨L, l.length, none⟩ = false := by
  constructor
  · simp only [World.cell?, h]
    unfold part
    obtain ⟨d, hd⟩ : ∃ d, c - l.length = d + 1 := ⟨c - l.length - 1, by omega⟩
    rw [List.getElem?_toArray, List.getElem?_append_right (by rw [intV_length]; omega), intV_length, Nat.sub_self, hd]
    rfl
  · simp [World.frozen?, h]

set_option maxHeartbeats 1000000 in
theorem rising_rd (R B : Nat) (st : Option (List UInt8)) (count : Nat) (most : Int) (w : World) (h : Rd w R B st) (hc : count ≤ 4000) (h2 : most ≤ 1000000) (h3 : -1000000 ≤ most) (hBw : B ≤ w.heap.size) :
    Calls Try.prog 54 #[.pointer (some ⟨R, 0, none⟩), .int .i64 count, .int .i64 most] w fun e w' => ∃ v,
      e = .returned v ∧ w'.ownsRow w.heap.size 3 1 v count (intV (riseN most st count).1) ∧ Rd w' R B (riseN most st count).2.2 ∧ Kp [R] w w' := by
  have hmk := fun w' => make_ints count w' (by omega)
  obtain ⟨x, y, hb⟩ := h.block
  have hlt := heap_lt hb
  have H := hide h
  clear h hb
  go_enter Try.func54, Try.ntmps54
  go_wp2_with fail
  obtain ⟨W, hW⟩ : ∃ W, (w.alloc (.cells (Array.replicate count (Value.int .i64 0)) 3)).alloc (.cells #[.int .i64 0] 97) = W := ⟨_, rfl⟩
  rw [hW]
  have hL0 : W.heap[w.heap.size]? = some (.cells (part [] count) 3 (0, 0)) := by
    rw [← hW, Below.heap_alloc _ _ _ (by simp)]
    rw [heap_alloc_new]
    simp [part, intV]
  have hQ0 : Ri W (w.heap.size + 1) 0 := by
    rw [← hW]
    have := heap_alloc_new (w.alloc (.cells (Array.replicate count (Value.int .i64 0)) 3)) (.cells #[.int .i64 0] 97)
    simpa [Ri] using this
  have hK0 : Kp [R] w W := by rw [← hW]; exact ((Kp.refl _ _).alloc _).alloc _
  have hR0 : Rd W R B st := by
    have k0 : Kp [] w W := by rw [← hW]; exact ((Kp.refl _ _).alloc _).alloc _
    exact H.out.kp k0 (by simp) (by simp)
  have HL0 := hide hL0
  have HQ0 := hide hQ0
  have HR0 := hide hR0
  clear hL0 hQ0 hR0 hmk hW
  go_loopw [14] (fun iv wr => ∃ k : Nat, k ≤ count ∧ iv = .int .i64 k ∧ wr.heap[w.heap.size]? = some (.cells (part (riseN most st k).1 count) 3 (0, 0)) ∧ Ri wr (w.heap.size + 1) (riseN most st k).2.1 ∧ Rd wr R B (riseN most st k).2.2 ∧ Kp [R] w wr) (fun iv _ => count - (intOf iv).toNat)
  case atStart => exact ⟨0, by omega, rfl, HL0.out, HQ0.out, HR0.out, hK0⟩
  case round =>
    clear HL0 HQ0 HR0 hK0
    obtain ⟨k, hk, rfl, hL, hQ, hR, hK⟩ := hrel
    by_cases hlt2 : k < count
    · have hE := entry_rd R B (w.heap.size + 1) (riseN most st k).2.2 (riseN most st k).2.1 most wr hR hQ (by omega) (by have := riseN_le most st k; omega) (by omega) (by omega)
      have hres : Hid (riseN most st (k + 1) = _) := rfl
      have hlen := riseN_len most st k
      have hlt1 := numF_lt (riseN most st k).2.2 0 (most - (riseN most st k).2.1)
      have hle := riseN_le most st k
      have hd : riseN most st (k + 1) = ((riseN most st k).1 ++ [(riseN most st k).2.1 + (numF (riseN most st k).2.2 0 (most - (riseN most st k).2.1)).1], (riseN most st k).2.1 + (numF (riseN most st k).2.2 0 (most - (riseN most st k).2.1)).1 + 1, (numF (riseN most st k).2.2 0 (most - (riseN most st k).2.1)).2) := rfl
      obtain ⟨l, le, s, hrs⟩ : ∃ l le s, riseN most st k = (l, le, s) := ⟨_, _, _, rfl⟩
      rw [hrs] at hE hlen hlt1 hle hd hL hQ hR
      simp only at hE hlen hlt1 hle hd hL hQ hR
      obtain ⟨n, s', hns⟩ : ∃ n s', numF s 0 (most - le) = (n, s') := ⟨_, _, rfl⟩
      rw [hns] at hE hlt1 hd
      simp only at hE hlt1 hd
      have HE := hide hE
      have HD := hide hd
      have HL := hide hL
      have HR := hide hR
      have HQ := hide hQ
      clear hE hd hres hrs hns hL hR hQ
      have Hlen := hide hlen
      clear hlen
      go_wp2_with fail
      refine HE.out.mono ?_
      rintro e w1 ⟨rfl, hr1, hq1, hk1⟩
      have hne : R ≠ w.heap.size + 1 := by omega
      have hne2 : w.heap.size ∉ [R, w.heap.size + 1] := by simp; omega
      have hL1 := hk1.heap HL.out hne2
      have hcl := part_cell hL1 (by rw [Hlen.out]; exact hlt2)
      rw [Hlen.out] at hcl
      obtain ⟨hc1, hf1⟩ := hcl
      have HR1 := hide hr1
      have HQ1 := hide hq1
      have HL1 := hide hL1
      clear hr1 hq1 hL1
      go_wp2_with fail
      go_roundw
      case rel =>
        refine ⟨k + 1, by omega, by go_num, ?_, ?_, ?_, ?_⟩
        · rw [HD.out]
          have := heap_setCell_same w1 w.heap.size k _ 3 (.int .i64 ((le + n : Nat) : Int)) HL1.out
          have hp := part_set l count (le + n) (by rw [Hlen.out]; exact hlt2)
          rw [Hlen.out] at hp
          rw [hp] at this
          simpa using this
        · rw [HD.out]
          exact ((Kp.refl [w.heap.size] w1).setCell (.inl (by simp)) _).heap HQ1.out (by simp)
        · rw [HD.out]
          exact HR1.out.kp ((Kp.refl [w.heap.size] w1).setCell (.inl (by simp)) _) (by simp; omega) (by simpa using hBw)
        · exact (hK.trans hk1 (by simp)).setCell (.inr (by simp)) _
      case measure => simp [intOf]; omega
    · have e : k = count := by omega
      subst e
      have HL := hide hL
      have HR := hide hR
      clear hL hR hQ
      go_wp2_with fail
      go_ret
      have hlen := riseN_len most st k
      refine ⟨_, rfl, ⟨by rw [intV_length, hlen]; omega, .inr ⟨w.heap.size, k, _, rfl, Nat.le_refl _, HL.out, Nat.le_refl _, by unfold maxLen; omega, ?_, ?_⟩⟩, HR.out, hK⟩
      · simp [part, intV, hlen]
      · unfold part
        rw [hlen, Nat.sub_self]
        simp only [List.replicate_zero, List.append_nil]
        rw [List.take_of_length_le (by rw [intV_length, hlen]; omega)]
end Go.Proofs.Ytpdoacfiiledcaa.Pak
