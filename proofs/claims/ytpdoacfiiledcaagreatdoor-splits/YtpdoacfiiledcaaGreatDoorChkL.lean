import Derived.Test.YtpdoacfiiledcaaGreatDoorChkK
namespace Go.Proofs.YtpdoacfiiledcaaGreatDoor
open Go.RowKit ChkM
set_option linter.unusedVariables false

/-- A step of a script, as it lies in memory. -/
def opA (k a b c d : Int) (s : ByteArray) (l n f : Value) : Value := .agg #[.int .i64 k, .int .i64 a, .int .i64 b, .int .i64 c, .int .i64 d, .string s, l, n, f]

/-- The box of a step: its cells in whatever later world. -/
theorem box_cell {w w1 : World} {cs : Array Value} {t : TypeId} {j : Nat} {x : Value} (hj : cs[j]? = some x) (hb : Below (w.alloc (.cells cs t)).heap.size (w.alloc (.cells cs t)) w1) : w1.cell? ⟨w.heap.size, j, none⟩ = some x := by
  rw [hb.cell (by show w.heap.size < _; simp), World.cell?_alloc_at _ _ _ _ rfl]; exact hj

set_option maxHeartbeats 400000 in
set_option maxRecDepth 100000 in
theorem free_long (p : Value) (a b c d : Int) (s : ByteArray) (l n f : Value) (w : World) (hs : 60 < s.size) :
    Calls Tryz.prog 42 #[p, opA 2 a b c d s l n f] w fun e w' => e = .returned (.bool true) ∧ Below w.heap.size w w' := by
  unfold opA
  go_enter Tryz.func42, Tryz.ntmps42
  go_wp2_with fail
  refine (check_long s _ hs).mono ?_
  rintro e w1 ⟨rfl, hb1⟩
  have hc5 := box_cell (j := 5) rfl hb1
  have hb0 : Below w.heap.size w w1 := ((Below.refl _ _).alloc (Nat.le_refl _) _).trans (hb1.mono (by simp))
  clear hb1
  go_wp2_with fail
  refine (rcheck_long s _ hs).mono ?_
  rintro e w' ⟨rfl, rfl⟩
  go_wp2_with fail
  go_ret
  exact ⟨rfl, hb0⟩

set_option maxHeartbeats 400000 in
set_option maxRecDepth 100000 in
theorem free_ok (p : Value) (a b c d : Int) (s : ByteArray) (l n f : Value) (w : World) (hs : s.size ≤ 60) :
    Calls Tryz.prog 42 #[p, opA 2 a b c d s l n f] w fun e w' => e = .returned (.bool true) ∧ Below w.heap.size w w' := by
  unfold opA
  have ht := hide (same_ans s.data.toList)
  go_enter Tryz.func42, Tryz.ntmps42
  go_wp2_with fail
  refine (check_ok s _ hs).mono ?_
  rintro e w1 ⟨a1, k1, rfl, h1, hk1, hb1⟩
  have hc5 := box_cell (j := 5) rfl hb1
  have hz1 := hb1.size
  have hz2 : w.heap.size + 1 ≤ w1.heap.size := by simpa using hz1
  have hb0 : Below w.heap.size w w1 := ((Below.refl _ _).alloc (Nat.le_refl _) _).trans (hb1.mono (by simp))
  clear hz1 hb1
  go_wp2_with fail
  refine (rcheck_ok s _ hs).mono ?_
  rintro e w2 ⟨a2, k2, rfl, h2, hb2⟩
  have he : (a1, k1) = (a2, k2) := h1.out.symm.trans (ht.out.trans h2.out)
  obtain ⟨rfl, rfl⟩ : a1 = a2 ∧ k1 = k2 := by injection he with x y; exact ⟨x, y⟩
  clear h1 h2 ht he
  go_wp2_with fail
  go_ret
  exact ⟨rfl, hb0.trans (hb2.mono (by omega))⟩

theorem free_any (p : Value) (a b c d : Int) (s : ByteArray) (l n f : Value) (w : World) :
    Calls Tryz.prog 42 #[p, opA 2 a b c d s l n f] w fun e w' => e = .returned (.bool true) ∧ Below w.heap.size w w' := by
  by_cases hs : s.size ≤ 60
  · exact free_ok p a b c d s l n f w hs
  · exact free_long p a b c d s l n f w (by omega)

set_option maxHeartbeats 400000 in
set_option maxRecDepth 100000 in
theorem wstep_any (p : Value) (a b c d : Int) (s : ByteArray) (l n f : Value) (w : World) :
    Calls Tryz.prog 24 #[p, opA 2 a b c d s l n f] w fun e w' => e = .returned (.bool true) ∧ Below w.heap.size w w' := by
  unfold opA
  go_enter Tryz.func24, Tryz.ntmps24
  go_wp2_with fail
  refine (free_any p a b c d s l n f _).mono ?_
  rintro e w1 ⟨rfl, hb1⟩
  go_wp2_with fail
  go_ret
  exact ⟨rfl, ((Below.refl _ _).alloc (Nat.le_refl _) _).trans (hb1.mono (by simp))⟩

set_option maxHeartbeats 400000 in
set_option maxRecDepth 100000 in
theorem looks_nil (W : Nat) (w : World) (h1 : w.cell? ⟨W, 1, none⟩ = some (.slice none 0 0)) (h2 : w.cell? ⟨W, 2, none⟩ = some (.slice none 0 0)) (h3 : w.cell? ⟨W, 3, none⟩ = some (.slice none 0 0))
    (h4 : w.cell? ⟨W, 4, none⟩ = some (.slice none 0 0)) (h5 : w.cell? ⟨W, 5, none⟩ = some (.slice none 0 0)) :
    Calls Tryz.prog 25 #[.pointer (some ⟨W, 1, none⟩)] w fun e w' => e = .returned (.bool true) ∧ w' = w := by
  go_enter Tryz.func25, Tryz.ntmps25
  go_wp2_with fail
  refine wp_loop_rounds 1 ?_
  rw [rounds_succ]
  go_wp2_with fail
  refine wp_loop_rounds 1 ?_
  rw [rounds_succ]
  go_wp2_with fail
  refine wp_loop_rounds 1 ?_
  rw [rounds_succ]
  go_wp2_with fail
  refine wp_loop_rounds 1 ?_
  rw [rounds_succ]
  go_wp2_with fail
  refine wp_loop_rounds 1 ?_
  rw [rounds_succ]
  go_wp2_with fail
  go_ret
  exact ⟨rfl, rfl⟩
end Go.Proofs.YtpdoacfiiledcaaGreatDoor
