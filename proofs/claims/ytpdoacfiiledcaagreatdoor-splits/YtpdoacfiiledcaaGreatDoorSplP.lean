import Derived.Test.YtpdoacfiiledcaaGreatDoorSplO
namespace Go.Proofs.YtpdoacfiiledcaaGreatDoor.Spl
open Go.RowKit Go.Proofs.YtpdoacfiiledcaaGreatDoor.SiftM
set_option linter.unusedVariables false

theorem inv_new (w : World) : Inv (w.alloc worldO) w.heap.size [] (.slice none 0 0) :=
  ⟨heap_alloc_new w _, World.ownsRow_nil _ _ _ _, fun i x hx => by simp at hx⟩

set_option maxHeartbeats 1000000 in
set_option maxRecDepth 100000 in
theorem plays1_any (B b off len cap K : Nat) (w : World) (hlen : len * 128 ≤ 140737488351232) (hS : ScriptAt w b off len) (hb : b < w.heap.size) (hK : w.cell? ⟨K, 0, none⟩ = some (.int .i64 1)) (hKb : K < w.heap.size) (hT : Tab B w) (hB : B ≤ w.heap.size) :
    Calls Tryz.prog 13 #[.slice (some ⟨b, off, none⟩) len cap, .slice (some ⟨K, 0, none⟩) 1 1] w fun e w' => e = .returned (.bool true) ∧ Below w.heap.size w w' := by
  have hb0 : Below w.heap.size w (w.alloc worldO) := (Below.refl _ _).alloc (Nat.le_refl _) _
  have hT0 := hide (tab_on hT (hb0.mono hB))
  replace hS := hide hS
  replace hT := hide hT
  go_enter Tryz.func13, Tryz.ntmps13
  go_wp2_with fail
  refine (wstep1_any B w.heap.size [] (.slice none 0 0) 2 2 0 0 ⟨#[97]⟩ (.slice none 0 0) (.slice none 0 0) (.slice none 0 0) _ (inv_new w) hT0.out hB (by simp)).mono ?_
  rintro e w1 ⟨rfl, ⟨x1, v1, hI1⟩, hb1⟩
  have hw0 : Below w.heap.size w w1 := hb0.trans hb1
  replace hI1 := hide hI1
  clear hb1 hT0 hb0
  go_wp2_with fail
  go_loopw [7] (fun i wr => ∃ (k : Nat) (F : List One) (v : Value), k ≤ len ∧ i = .int .i64 k ∧ F.length ≤ k + 1 ∧ Hid (Inv wr w.heap.size F v) ∧ Below w.heap.size w wr) (fun i _ => len - (intOf i).toNat)
  case atStart => exact ⟨0, [] ++ [x1], v1, Nat.zero_le _, rfl, by simp, hI1, hw0⟩
  case round =>
    clear hI1 hw0
    obtain ⟨k, F, v, hk, rfl, hFl, hI, hw⟩ := hrel
    have hKr : wr.cell? ⟨K, 0, none⟩ = some (.int .i64 1) := by rw [hw.cell hKb]; exact hK
    by_cases hlt : k < len
    · have h1 : (k : Int) < (len : Int) := by omega
      have h0 : (0 : Int) ≤ (k : Int) := by omega
      obtain ⟨kk, a, b', c, d, s, l, n, f, hop⟩ := hS.out k hlt
      have hc0 : wr.cell? ⟨b, off + k * 9, none⟩ = some (.int .i64 kk) := by rw [hw.cell hb]; exact hop.1
      by_cases h2 : kk = 1
      · subst h2
        have e1 : wr.cell? ⟨b, off + k * 9 + 1, none⟩ = some (.int .i64 a) := by rw [hw.cell hb]; exact hop.2.1
        have e2 : wr.cell? ⟨b, off + k * 9 + 2, none⟩ = some (.int .i64 b') := by rw [hw.cell hb]; exact hop.2.2.1
        have e3 : wr.cell? ⟨b, off + k * 9 + 3, none⟩ = some (.int .i64 c) := by rw [hw.cell hb]; exact hop.2.2.2.1
        have e4 : wr.cell? ⟨b, off + k * 9 + 4, none⟩ = some (.int .i64 d) := by rw [hw.cell hb]; exact hop.2.2.2.2.1
        have e5 : wr.cell? ⟨b, off + k * 9 + 5, none⟩ = some (.string s) := by rw [hw.cell hb]; exact hop.2.2.2.2.2.1
        have e6 : wr.cell? ⟨b, off + k * 9 + 6, none⟩ = some l := by rw [hw.cell hb]; exact hop.2.2.2.2.2.2.1
        have e7 : wr.cell? ⟨b, off + k * 9 + 7, none⟩ = some n := by rw [hw.cell hb]; exact hop.2.2.2.2.2.2.2.1
        have e8 : wr.cell? ⟨b, off + k * 9 + 8, none⟩ = some f := by rw [hw.cell hb]; exact hop.2.2.2.2.2.2.2.2
        replace hop := hide hop
        go_wp2_with fail
        refine wp_loop_rounds 2 ?_
        rw [rounds_succ]
        go_wp2_with fail
        go_quiet (fail)
        go_wp2_with fail
        rw [rounds_succ]
        go_wp2_with fail
        have hbq : ∀ X : World, Below X.heap.size X (X.drewN nq) := fun X => ⟨rfl, rfl, rfl, Nat.le_refl _, fun _ _ => rfl⟩
        have hw1 : Below w.heap.size w (wr.drewN nq) := hw.trans ((hbq wr).mono hw.size)
        refine (wstep1_any B w.heap.size F v a b' c d s l n f _ (inv_later hI.out (hbq wr)) (tab_on hT.out (hw1.mono hB)) hB (by omega)).mono ?_
        rintro e w2 ⟨rfl, ⟨x2, v2, hI2⟩, hb2⟩
        clear e1 e2 e3 e4 e5 e6 e7 e8 hc0 hKr hbq
        have hw2 : Below w.heap.size w w2 := hw1.trans hb2
        have hT2 := hide (tab_on hT.out (hw2.mono hB))
        replace hI2 := hide hI2
        clear hb2 hI hw hw1
        have hz2 := hw2.size
        have hFl2 : (F ++ [x2]).length ≤ k + 1 + 1 := by simp; omega
        go_wp2_with fail
        refine (looks_any B w.heap.size (F ++ [x2]) v2 _ hI2.out hT2.out (by omega) (by omega)).mono ?_
        rintro e w3 ⟨rfl, hb3⟩
        have hI3 : Hid (Inv w3 w.heap.size (F ++ [x2]) v2) := inv_later hI2.out hb3
        have hw3 : Below w.heap.size w w3 := hw2.trans (hb3.mono hz2)
        clear hI2 hb3 hw2
        go_wp2_with fail
        exact ⟨⟨k + 1, F ++ [x2], v2, by omega, by go_num, hFl2, hI3, hw3⟩, by simp [intOf]; omega⟩
      · have hq : (kk == 1) = false := by rw [beq_eq_false_iff_ne]; exact h2
        clear h2
        replace hop := hide hop
        go_wp2_with fail
        refine wp_loop_rounds 2 ?_
        rw [rounds_succ]
        go_wp2_with fail
        go_quiet (fail)
        go_wp2_with fail
        rw [rounds_succ]
        go_wp2_with fail
        have hbq : Below wr.heap.size wr (wr.drewN nq) := ⟨rfl, rfl, rfl, Nat.le_refl _, fun _ _ => rfl⟩
        have hw1 : Below w.heap.size w (wr.drewN nq) := hw.trans (hbq.mono hw.size)
        have hI3 : Hid (Inv (wr.drewN nq) w.heap.size F v) := inv_later hI.out hbq
        exact ⟨⟨k + 1, F, v, by omega, by go_num, by omega, hI3, hw1⟩, by simp [intOf]; omega⟩
    · go_wp2_with fail
      go_ret
      exact ⟨rfl, hw⟩

set_option maxHeartbeats 1000000 in
set_option maxRecDepth 100000 in
theorem plays1_zero (B : Nat) (a : Option Addr) (cap K : Nat) (w : World) (hK : w.cell? ⟨K, 0, none⟩ = some (.int .i64 1)) (hKb : K < w.heap.size) (hT : Tab B w) (hB : B ≤ w.heap.size) :
    Calls Tryz.prog 13 #[.slice a 0 cap, .slice (some ⟨K, 0, none⟩) 1 1] w fun e w' => e = .returned (.bool true) ∧ Below w.heap.size w w' := by
  have hb0 : Below w.heap.size w (w.alloc worldO) := (Below.refl _ _).alloc (Nat.le_refl _) _
  have hT0 := hide (tab_on hT (hb0.mono hB))
  replace hT := hide hT
  go_enter Tryz.func13, Tryz.ntmps13
  go_wp2_with fail
  refine (wstep1_any B w.heap.size [] (.slice none 0 0) 2 2 0 0 ⟨#[97]⟩ (.slice none 0 0) (.slice none 0 0) (.slice none 0 0) _ (inv_new w) hT0.out hB (by simp)).mono ?_
  rintro e w1 ⟨rfl, ⟨x1, v1, hI1⟩, hb1⟩
  have hw0 : Below w.heap.size w w1 := hb0.trans hb1
  clear hb1 hI1 hb0
  go_wp2_with fail
  refine wp_loop_rounds 1 ?_
  rw [rounds_succ]
  go_wp2_with fail
  go_ret
  exact ⟨rfl, hw0⟩

set_option maxHeartbeats 400000 in
theorem splits_zero (a : Option Addr) (cap : Nat) (w : World) (hT : Tab w.heap.size w) :
    Calls Tryz.prog 3 #[.slice a 0 cap] w fun e w' => e = .returned (.bool true) ∧ Below w.heap.size w w' := by
  have hT0 := hide (tab_on hT ((Below.refl w.heap.size w).alloc (Nat.le_refl _) (.cells #[.int .i64 1] 3)))
  replace hT := hide hT
  go_enter Tryz.func3, Tryz.ntmps3
  go_wp2_with fail
  refine (plays1_zero w.heap.size a cap w.heap.size _ (by rw [World.cell?_alloc_at _ _ _ _ rfl]; rfl) (by simp) hT0.out (by simp)).mono ?_
  rintro e w1 ⟨rfl, hb⟩
  go_wp2_with fail
  go_ret
  exact ⟨rfl, ((Below.refl _ _).alloc (Nat.le_refl _) _).trans (hb.mono (by simp))⟩

set_option maxHeartbeats 400000 in
theorem splits_any (b off len cap : Nat) (w : World) (hlen : len * 128 ≤ 140737488351232) (hS : ScriptAt w b off len) (hb : b < w.heap.size) (hT : Tab w.heap.size w) :
    Calls Tryz.prog 3 #[.slice (some ⟨b, off, none⟩) len cap] w fun e w' => e = .returned (.bool true) ∧ Below w.heap.size w w' := by
  have hT0 := hide (tab_on hT ((Below.refl w.heap.size w).alloc (Nat.le_refl _) (.cells #[.int .i64 1] 3)))
  replace hT := hide hT
  go_enter Tryz.func3, Tryz.ntmps3
  go_wp2_with fail
  refine (plays1_any w.heap.size b off len cap w.heap.size _ hlen (script_alloc _ hS hb) (by simp; omega) (by rw [World.cell?_alloc_at _ _ _ _ rfl]; rfl) (by simp) hT0.out (by simp)).mono ?_
  rintro e w1 ⟨rfl, hb1⟩
  go_wp2_with fail
  go_ret
  exact ⟨rfl, ((Below.refl _ _).alloc (Nat.le_refl _) _).trans (hb1.mono (by simp))⟩
end Go.Proofs.YtpdoacfiiledcaaGreatDoor.Spl
