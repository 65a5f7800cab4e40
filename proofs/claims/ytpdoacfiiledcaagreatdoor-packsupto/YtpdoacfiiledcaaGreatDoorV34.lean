import Derived.Test.YtpdoacfiiledcaaGreatDoorV33
import Derived.Test.YtpdoacfiiledcaaGreatDoorV32
set_option linter.unusedVariables false
namespace Go.Proofs.YtpdoacfiiledcaaGreatDoor.Own
open Go.RowKit Go.Proofs.YtpdoacfiiledcaaGreatDoor
open Go.Proofs.YtpdoacfiiledcaaGreatDoor.Spl Go.Proofs.YtpdoacfiiledcaaGreatDoor.Pak

/-- Docs with good ids, in the rising order of these. -/
theorem docs_sorted (D : List Dc) : ∃ N N' : List Nd, IdsOk D → D = dcs N ∧ N'.Perm N ∧ Pak.Sorted N' := by
  refine ⟨D.map fun x => (x.1.toNat, x.2), (D.map fun x => (x.1.toNat, x.2)).mergeSort (fun x y => decide (x.1 ≤ y.1)), fun h => ?_⟩
  have hi := (idsOk_iff D).1 h
  refine ⟨?_, List.mergeSort_perm _ _, ?_⟩
  · unfold dcs
    rw [List.map_map]
    conv => lhs; rw [← List.map_id D]
    apply List.map_congr_left
    intro x hx
    have := (hi.1 x hx).1
    obtain ⟨i, b⟩ := x
    simp at this ⊢
    omega
  · have hle := List.pairwise_mergeSort (le := fun x y : Nd => decide (x.1 ≤ y.1)) (fun a b c h1 h2 => by simp at *; omega) (fun a b => by simp; omega) (D.map fun x => (x.1.toNat, x.2))
    have hne : ((D.map fun x => ((x.1.toNat, x.2) : Nd)).mergeSort (fun x y => decide (x.1 ≤ y.1))).Pairwise (fun x y => x.1 ≠ y.1) := by
      refine (List.Perm.pairwise_iff (fun {x y} hxy => hxy.symm) (List.mergeSort_perm _ _)).2 ?_
      rw [List.pairwise_map]
      refine hi.2.imp_of_mem ?_
      intro x y hx hy hxy e
      have h1 := (hi.1 x hx).1
      have h2 := (hi.1 y hy).1
      simp at e
      omega
    unfold Pak.Sorted
    exact (hle.and hne).imp (fun hh => by have h1 := hh.1; have h2 := hh.2; simp at h1; omega)

/-- Two answers of Pack to the same docs are the same. -/
theorem pack_same {D : List Dc} {N' : List Nd} {w1 w2 w3 w4 : World} {e1 e2 : Ending} (h1 : PackPost D N' w1 e1 w2) (h2 : PackPost D N' w3 e2 w4) :
    (∃ er : Int, er ≠ 0 ∧ e1 = .returned (.tuple #[.slice none 0 0, .int .i64 er]) ∧ e2 = .returned (.tuple #[.slice none 0 0, .int .i64 er])) ∨
    ∃ (F : List UInt8) (a1 a2 : Option Addr) (c1 c2 : Nat), e1 = .returned (.tuple #[.slice a1 F.length c1, .int .i64 0]) ∧ e2 = .returned (.tuple #[.slice a2 F.length c2, .int .i64 0]) ∧ w2.ownsRow w1.heap.size 5 1 (.slice a1 F.length c1) F.length (byV F) ∧ w4.ownsRow w3.heap.size 5 1 (.slice a2 F.length c2) F.length (byV F) := by
  rcases h1.2 with ⟨p, rfl⟩ | ⟨p, q, rfl⟩ | ⟨p, q, r, rfl⟩ | ⟨p, q, r, a1, c1, n1, l1, rfl, o1⟩
  · rcases h2.2 with ⟨p', rfl⟩ | ⟨p', q', rfl⟩ | ⟨p', q', r', rfl⟩ | ⟨p', q', r', a2, c2, n2, l2, rfl, o2⟩
    · exact .inl ⟨5, by omega, rfl, rfl⟩
    · omega
    · omega
    · omega
  · rcases h2.2 with ⟨p', rfl⟩ | ⟨p', q', rfl⟩ | ⟨p', q', r', rfl⟩ | ⟨p', q', r', a2, c2, n2, l2, rfl, o2⟩
    · omega
    · exact .inl ⟨3, by omega, rfl, rfl⟩
    · exact absurd q' q
    · exact absurd q' q
  · rcases h2.2 with ⟨p', rfl⟩ | ⟨p', q', rfl⟩ | ⟨p', q', r', rfl⟩ | ⟨p', q', r', a2, c2, n2, l2, rfl, o2⟩
    · omega
    · exact absurd q q'
    · exact .inl ⟨4, by omega, rfl, rfl⟩
    · obtain ⟨d, hd, hs⟩ := r
      have := r' d hd; omega
  · rcases h2.2 with ⟨p', rfl⟩ | ⟨p', q', rfl⟩ | ⟨p', q', r', rfl⟩ | ⟨p', q', r', a2, c2, n2, l2, rfl, o2⟩
    · omega
    · exact absurd q q'
    · obtain ⟨d, hd, hs⟩ := r'
      have := r d hd; omega
    · subst l1 l2
      exact .inr ⟨_, a1, a2, c1, c2, rfl, rfl, o1, o2⟩
end Go.Proofs.YtpdoacfiiledcaaGreatDoor.Own
