import Derived.Test.YtpdoacfiiledcaaGreatDoorChkL
namespace Go.Proofs.YtpdoacfiiledcaaGreatDoor
open Go.RowKit ChkM
set_option linter.unusedVariables false

/-- The steps of a script, as they lie in memory. -/
def OpAt (w : World) (b o : Nat) (k a b' c d : Int) (s : ByteArray) (l n f : Value) : Prop :=
  w.cell? ⟨b, o, none⟩ = some (.int .i64 k) ∧ w.cell? ⟨b, o + 1, none⟩ = some (.int .i64 a) ∧ w.cell? ⟨b, o + 2, none⟩ = some (.int .i64 b') ∧ w.cell? ⟨b, o + 3, none⟩ = some (.int .i64 c) ∧ w.cell? ⟨b, o + 4, none⟩ = some (.int .i64 d) ∧
  w.cell? ⟨b, o + 5, none⟩ = some (.string s) ∧ w.cell? ⟨b, o + 6, none⟩ = some l ∧ w.cell? ⟨b, o + 7, none⟩ = some n ∧ w.cell? ⟨b, o + 8, none⟩ = some f
def ScriptAt (w : World) (b off len : Nat) : Prop := ∀ i, i < len → ∃ (k a b' c d : Int) (s : ByteArray) (l n f : Value), OpAt w b (off + i * 9) k a b' c d s l n f

def worldO : Obj := .cells #[.slice none 0 0, .slice none 0 0, .slice none 0 0, .slice none 0 0, .slice none 0 0, .slice none 0 0] 64

set_option maxHeartbeats 1000000 in
set_option maxRecDepth 100000 in
theorem plays_any (b off len cap K : Nat) (w : World) (hlen : len ≤ 9223372036854775807) (hS : ScriptAt w b off len) (hb : b < w.heap.size) (hK : w.cell? ⟨K, 0, none⟩ = some (.int .i64 2)) (hKb : K < w.heap.size) :
    Calls Tryz.prog 13 #[.slice (some ⟨b, off, none⟩) len cap, .slice (some ⟨K, 0, none⟩) 1 1] w fun e w' => e = .returned (.bool true) ∧ Below w.heap.size w w' := by
  replace hS := hide hS
  go_enter Tryz.func13, Tryz.ntmps13
  go_wp2_with fail
  refine (wstep_any _ 2 2 0 0 ⟨#[97]⟩ (.slice none 0 0) (.slice none 0 0) (.slice none 0 0) _).mono ?_
  rintro e w1 ⟨rfl, hb1⟩
  have hz1 : w.heap.size + 1 ≤ w1.heap.size := by simpa using hb1.size
  have hw0 : Below w.heap.size w w1 := ((Below.refl _ _).alloc (Nat.le_refl _) _).trans (hb1.mono (by simp))
  have hcell : ∀ j, j < 6 → w1.cell? ⟨w.heap.size, j, none⟩ = some (.slice none 0 0) := fun j hj => by
    match j, hj with
    | 0, _ => exact box_cell rfl hb1
    | 1, _ => exact box_cell rfl hb1
    | 2, _ => exact box_cell rfl hb1
    | 3, _ => exact box_cell rfl hb1
    | 4, _ => exact box_cell rfl hb1
    | 5, _ => exact box_cell rfl hb1
  replace hcell := hide hcell
  clear hb1
  go_wp2_with fail
  go_loopw [7] (fun i wr => ∃ k : Nat, k ≤ len ∧ i = .int .i64 k ∧ Hid (∀ j, j < 6 → wr.cell? ⟨w.heap.size, j, none⟩ = some (.slice none 0 0)) ∧ Below w.heap.size w wr ∧ w.heap.size + 1 ≤ wr.heap.size) (fun i _ => len - (intOf i).toNat)
  case atStart => exact ⟨0, Nat.zero_le _, rfl, hcell, hw0, hz1⟩
  case round =>
    clear hcell hw0 hz1
    obtain ⟨k, hk, rfl, hcell, hw, hz⟩ := hrel
    have hKr : wr.cell? ⟨K, 0, none⟩ = some (.int .i64 2) := by rw [hw.cell hKb]; exact hK
    by_cases hlt : k < len
    · have h1 : (k : Int) < (len : Int) := by omega
      have h0 : (0 : Int) ≤ (k : Int) := by omega
      obtain ⟨kk, a, b', c, d, s, l, n, f, hop⟩ := hS.out k hlt
      have hc0 : wr.cell? ⟨b, off + k * 9, none⟩ = some (.int .i64 kk) := by rw [hw.cell hb]; exact hop.1
      by_cases h2 : kk = 2
      · subst h2
        have e1 : wr.cell? ⟨b, off + k * 9 + 1, none⟩ = some (.int .i64 a) := by rw [hw.cell hb]; exact hop.2.1
        have e2 : wr.cell? ⟨b, off + k * 9 + 2, none⟩ = some (.int .i64 b') := by rw [hw.cell hb]; exact hop.2.2.1
        have e3 : wr.cell? ⟨b, off + k * 9 + 3, none⟩ = some (.int .i64 c) := by rw [hw.cell hb]; exact hop.2.2.2.1
        have e4 : wr.cell? ⟨b, off + k * 9 + 4, none⟩ = some (.int .i64 d) := by rw [hw.cell hb]; exact hop.2.2.2.2.1
        have e5 : wr.cell? ⟨b, off + k * 9 + 5, none⟩ = some (.string s) := by rw [hw.cell hb]; exact hop.2.2.2.2.2.1
        have e6 : wr.cell? ⟨b, off + k * 9 + 6, none⟩ = some l := by rw [hw.cell hb]; exact hop.2.2.2.2.2.2.1
        have e7 : wr.cell? ⟨b, off + k * 9 + 7, none⟩ = some n := by rw [hw.cell hb]; exact hop.2.2.2.2.2.2.2.1
        have e8 : wr.cell? ⟨b, off + k * 9 + 8, none⟩ = some f := by rw [hw.cell hb]; exact hop.2.2.2.2.2.2.2.2
        replace hop := hide hop
        go_wp2_with fail
        refine wp_loop_rounds 2 ?_
        rw [rounds_succ]
        go_wp2_with fail
        go_quiet (fail)
        go_wp2_with fail
        rw [rounds_succ]
        go_wp2_with fail
        refine (wstep_any _ a b' c d s l n f _).mono ?_
        rintro e w2 ⟨rfl, hb2⟩
        clear e1 e2 e3 e4 e5 e6 e7 e8 hc0 hKr
        have hz2 : wr.heap.size ≤ w2.heap.size := hb2.size
        have hcell2 : Hid (∀ j, j < 6 → w2.cell? ⟨w.heap.size, j, none⟩ = some (.slice none 0 0)) := fun j hj => by
          rw [hb2.cell (by show w.heap.size < wr.heap.size; omega)]
          exact hcell.out j hj
        have hw2 : Below w.heap.size w w2 := (hw.trans (bel_drewN _ _ _)).trans (hb2.mono (by show w.heap.size ≤ wr.heap.size; omega))
        clear hb2 hcell hw
        go_wp2_with fail
        refine (looks_nil w.heap.size _ (hcell2.out 1 (by omega)) (hcell2.out 2 (by omega)) (hcell2.out 3 (by omega)) (hcell2.out 4 (by omega)) (hcell2.out 5 (by omega))).mono ?_
        rintro e w3 ⟨rfl, rfl⟩
        go_wp2_with fail
        exact ⟨⟨k + 1, by omega, by go_num, hcell2, hw2, by omega⟩, by simp [intOf]; omega⟩
      · have hq : (kk == 2) = false := by rw [beq_eq_false_iff_ne]; exact h2
        clear h2
        go_wp2_with fail
        refine wp_loop_rounds 2 ?_
        rw [rounds_succ]
        go_wp2_with fail
        go_quiet (fail)
        go_wp2_with fail
        rw [rounds_succ]
        go_wp2_with fail
        exact ⟨⟨k + 1, by omega, by go_num, hcell, hw.trans (bel_drewN _ _ _), hz⟩, by simp [intOf]; omega⟩
    · go_wp2_with fail
      go_ret
      exact ⟨rfl, hw⟩

set_option maxHeartbeats 1000000 in
set_option maxRecDepth 100000 in
theorem plays_zero (a : Option Addr) (cap K : Nat) (w : World) (hK : w.cell? ⟨K, 0, none⟩ = some (.int .i64 2)) (hKb : K < w.heap.size) :
    Calls Tryz.prog 13 #[.slice a 0 cap, .slice (some ⟨K, 0, none⟩) 1 1] w fun e w' => e = .returned (.bool true) ∧ Below w.heap.size w w' := by
  go_enter Tryz.func13, Tryz.ntmps13
  go_wp2_with fail
  refine (wstep_any _ 2 2 0 0 ⟨#[97]⟩ (.slice none 0 0) (.slice none 0 0) (.slice none 0 0) _).mono ?_
  rintro e w1 ⟨rfl, hb1⟩
  have hw0 : Below w.heap.size w w1 := ((Below.refl _ _).alloc (Nat.le_refl _) _).trans (hb1.mono (by simp))
  clear hb1
  go_wp2_with fail
  refine wp_loop_rounds 1 ?_
  rw [rounds_succ]
  go_wp2_with fail
  go_ret
  exact ⟨rfl, hw0⟩

set_option maxHeartbeats 400000 in
theorem checks_zero (a : Option Addr) (cap : Nat) (w : World) :
    Calls Tryz.prog 4 #[.slice a 0 cap] w fun e w' => e = .returned (.bool true) ∧ Below w.heap.size w w' := by
  go_enter Tryz.func4, Tryz.ntmps4
  go_wp2_with fail
  refine (plays_zero a cap w.heap.size _ (by rw [World.cell?_alloc_at _ _ _ _ rfl]; rfl) (by simp)).mono ?_
  rintro e w1 ⟨rfl, hb⟩
  go_wp2_with fail
  go_ret
  exact ⟨rfl, ((Below.refl _ _).alloc (Nat.le_refl _) _).trans (hb.mono (by simp))⟩

theorem script_alloc {w : World} {b off len : Nat} (o : Obj) (h : ScriptAt w b off len) (hb : b < w.heap.size) : ScriptAt (w.alloc o) b off len := by
  intro i hi
  obtain ⟨k, a, b', c, d, s, l, n, f, h⟩ := h i hi
  unfold OpAt at h
  refine ⟨k, a, b', c, d, s, l, n, f, ?_⟩
  unfold OpAt
  rw [World.cell?_alloc_past _ _ _ hb, World.cell?_alloc_past _ _ _ hb, World.cell?_alloc_past _ _ _ hb, World.cell?_alloc_past _ _ _ hb, World.cell?_alloc_past _ _ _ hb, World.cell?_alloc_past _ _ _ hb, World.cell?_alloc_past _ _ _ hb, World.cell?_alloc_past _ _ _ hb, World.cell?_alloc_past _ _ _ hb]
  exact h

set_option maxHeartbeats 400000 in
theorem checks_any (b off len cap : Nat) (w : World) (hlen : len ≤ 9223372036854775807) (hS : ScriptAt w b off len) (hb : b < w.heap.size) :
    Calls Tryz.prog 4 #[.slice (some ⟨b, off, none⟩) len cap] w fun e w' => e = .returned (.bool true) ∧ Below w.heap.size w w' := by
  go_enter Tryz.func4, Tryz.ntmps4
  go_wp2_with fail
  refine (plays_any b off len cap w.heap.size _ hlen (script_alloc _ hS hb) (by simp; omega) (by rw [World.cell?_alloc_at _ _ _ _ rfl]; rfl) (by simp)).mono ?_
  rintro e w1 ⟨rfl, hb1⟩
  go_wp2_with fail
  go_ret
  exact ⟨rfl, ((Below.refl _ _).alloc (Nat.le_refl _) _).trans (hb1.mono (by simp))⟩
end Go.Proofs.YtpdoacfiiledcaaGreatDoor
