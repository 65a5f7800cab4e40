import Derived.Test.YtpdoacfiiledcaaGreatDoorSplM
namespace Go.Proofs.YtpdoacfiiledcaaGreatDoor.Spl
open Go.RowKit Go.Proofs.YtpdoacfiiledcaaGreatDoor Go.Proofs.YtpdoacfiiledcaaGreatDoor.SiftM
set_option linter.unusedVariables false

theorem inv_cells {w : World} {P : Nat} {F : List One} {v : Value} (h : Inv w P F v) :
    w.cell? ⟨P, 1, none⟩ = some (.slice none 0 0) ∧ w.cell? ⟨P, 3, none⟩ = some (.slice none 0 0) ∧ w.cell? ⟨P, 4, none⟩ = some (.slice none 0 0) ∧ w.cell? ⟨P, 5, none⟩ = some (.slice none 0 0) := by
  simp [World.cell?, h.hP]
theorem inv_row {w : World} {P g cap k : Nat} {F : List One} {x : One} (h : Inv w P F (.slice (some ⟨g, 0, none⟩) F.length cap)) (hk : F[k]? = some x) :
    w.cell? ⟨g, k * 5, none⟩ = some x.l ∧ w.cell? ⟨g, k * 5 + 1, none⟩ = some x.o ∧ w.cell? ⟨g, k * 5 + 2, none⟩ = some x.t ∧ w.cell? ⟨g, k * 5 + 3, none⟩ = some x.h ∧ w.cell? ⟨g, k * 5 + 4, none⟩ = some (.int .i64 (k : Int)) := by
  have hlt : k < F.length := by
    rcases Nat.lt_or_ge k F.length with h' | h'
    · exact h'
    · rw [List.getElem?_eq_none h'] at hk; simp at hk
  have key : ∀ j, j < 5 → w.cell? ⟨g, k * 5 + j, none⟩ = (oneV x (0 + k))[j]? := fun j hj => by
    rw [h.own.cellAt (k * 5 + j) (by omega)]
    exact rowF_get F k 0 x hk j hj
  have k0 := key 0 (by omega)
  have k1 := key 1 (by omega)
  have k2 := key 2 (by omega)
  have k3 := key 3 (by omega)
  have k4 := key 4 (by omega)
  rw [Nat.zero_add] at k4
  exact ⟨k0, k1, k2, k3, k4⟩

set_option maxHeartbeats 1000000 in
set_option maxRecDepth 100000 in
theorem looks_any (B P : Nat) (F : List One) (v : Value) (w : World) (hI : Inv w P F v) (hT : Tab B w) (hB : B ≤ w.heap.size) (hF : F.length ≤ 9223372036854775806) :
    Calls Tryz.prog 25 #[.pointer (some ⟨P, 1, none⟩)] w fun e w' => e = .returned (.bool true) ∧ Below w.heap.size w w' := by
  obtain ⟨c1, c3, c4, c5⟩ := inv_cells hI
  obtain ⟨a, cap, hv⟩ : ∃ a cap, v = .slice a F.length cap := by
    rcases hI.own.2 with ⟨rfl, h0⟩ | ⟨g, cap, cur, rfl, _⟩
    · exact ⟨none, 0, by rw [h0]⟩
    · exact ⟨_, _, rfl⟩
  subst hv
  replace hI := hide hI
  replace hT := hide hT
  go_enter Tryz.func25, Tryz.ntmps25
  go_wp2_with fail
  refine wp_loop_rounds 1 ?_
  rw [rounds_succ]
  go_wp2_with fail
  clear c1 c3 c4 c5
  go_loopw [3, 6] (fun o i wr => ∃ k : Nat, k ≤ F.length ∧ i = .int .i64 k ∧ o = .bool true ∧ Below w.heap.size w wr) (fun _ i _ => F.length - (intOf i).toNat)
  case atStart => exact ⟨0, Nat.zero_le _, rfl, rfl, Below.refl _ _⟩
  case round =>
    obtain ⟨k, hk, rfl, rfl, hb⟩ := hrel
    have hbz := hb.size
    have hI1 := inv_later hI.out hb
    have c2 := (inv_cell hI1).1
    by_cases hlt : k < F.length
    · obtain ⟨x, hx⟩ : ∃ x, F[k]? = some x := ⟨_, List.getElem?_eq_getElem hlt⟩
      obtain ⟨g, rfl⟩ : ∃ g, a = some ⟨g, 0, none⟩ := by
        rcases hI1.own.2 with ⟨h', h0⟩ | ⟨g, cap', cur, h', _⟩
        · omega
        · cases h'; exact ⟨g, rfl⟩
      obtain ⟨r0, r1, r2, r3, r4⟩ := inv_row hI1 hx
      have hkept := hide (hI1.kept k x hx)
      have hT1 := hide (tab_on hT.out (hb.mono hB))
      have h1 : (k : Int) < (F.length : Int) := by omega
      have h0 : (0 : Int) ≤ (k : Int) := by omega
      replace hx := hide hx
      replace hI1 := hide hI1
      go_wp2_with fail
      refine (still_any B x.n k x.l x.o x.t x.h _ (by omega) hT1.out (by omega) hkept.out).mono ?_
      rintro e w1 ⟨rfl, hb1⟩
      go_wp2_with fail
      exact ⟨⟨k + 1, by omega, by go_num, rfl, hb.trans (hb1.mono hbz)⟩, by simp [intOf]; omega⟩
    · obtain ⟨c1, c3, c4, c5⟩ := inv_cells hI1
      clear hI1
      go_wp2_with fail
      refine wp_loop_rounds 1 ?_
      rw [rounds_succ]
      go_wp2_with fail
      refine wp_loop_rounds 1 ?_
      rw [rounds_succ]
      go_wp2_with fail
      refine wp_loop_rounds 1 ?_
      rw [rounds_succ]
      go_wp2_with fail
      go_ret
      exact ⟨rfl, hb⟩
end Go.Proofs.YtpdoacfiiledcaaGreatDoor.Spl
