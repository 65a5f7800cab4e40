import Derived.Test.YtpdoacfiiledcaaPaB
namespace Go.Proofs.Ytpdoacfiiledcaa.Pak
open Go.RowKit Go.Proofs.Ytpdoacfiiledcaa SiftM Go.Sort
set_option linter.unusedVariables false

theorem holds_strs {w : World} {B g n cap : Nat} {l : List (List UInt8)} (h : w.ownsRow B 9 1 (.slice (some ⟨g, 0, none⟩) n cap) n (strV l)) (hl : l.length = n) : Holds encStr w g 0 l.toArray := by
  intro j hj
  have hj' : j < l.length := by simpa using hj
  rcases h.2 with ⟨e1, _⟩ | ⟨g', cap', cur, e1, hb, hg, hn', hcm, hcs, ht⟩
  · simp at e1
  · simp at e1
    obtain ⟨rfl, rfl⟩ := e1
    constructor
    · have hc := strs_cells h hl j hj'
      rw [Nat.zero_add, hc, getElem!_pos _ j hj]
      simp [encStr]
    · simp [World.frozen?, hg]
theorem strV_enc (l : List (List UInt8)) : l.map encStr = strV l := rfl

theorem sort_own (B : Nat) (v : Value) (zs : List (List UInt8)) (w : World) (h : w.ownsRow B 9 1 v zs.length (strV zs)) (hl : zs.length ≤ 1000000) :
    Calls Try.prog 45 #[v] w fun e w' => e = .returned (.tuple #[]) ∧ w'.ownsRow B 9 1 v zs.length (strV (zs.mergeSort fun x y => decide (x ≤ y))) ∧ Kp v.ownBlock.toList w w' := by
  obtain ⟨a, cap, rfl, ha⟩ := owns_forms h
  by_cases h0 : zs.length = 0
  · have hz : zs = [] := List.eq_nil_of_length_eq_zero h0
    subst hz
    refine (Try.slices_Sort_string_none a cap w).mono ?_
    rintro e w' ⟨rfl, rfl⟩
    exact ⟨rfl, by simpa using h, Kp.refl _ _⟩
  · obtain ⟨g, rfl⟩ := ha (by omega)
    refine (Try.slices_Sort_string g 0 cap zs w (holds_strs h rfl) (h.lt g rfl).2 (by omega)).mono ?_
    rintro e w' ⟨rfl, n, os, rfl⟩
    refine ⟨rfl, ?_, put_kp encStr w g n _ os⟩
    have := put_owns encStr h (zs.mergeSort fun x y => decide (x ≤ y)).toArray (by simp) n os
    simpa [strV_enc] using this

theorem compact_own (B : Nat) (v : Value) (zs : List (List UInt8)) (w : World) (h : w.ownsRow B 9 1 v zs.length (strV zs)) (hl : zs.length ≤ 1000000) (hc : (Lib.compact zs).length ≤ zs.length) :
    Calls Try.prog 46 #[v] w fun e w' => ∃ v', e = .returned v' ∧ w'.ownsRow B 9 1 v' (Lib.compact zs).length (strV (Lib.compact zs)) ∧ v'.ownBlock = v.ownBlock ∧ Kp v.ownBlock.toList w w' := by
  obtain ⟨a, cap, rfl, ha⟩ := owns_forms h
  by_cases h0 : zs.length = 0
  · have hz : zs = [] := List.eq_nil_of_length_eq_zero h0
    subst hz
    refine (Try.slices_Compact_string_empty a cap w).mono ?_
    rintro e w' ⟨rfl, rfl⟩
    exact ⟨_, rfl, h, rfl, Kp.refl _ _⟩
  · obtain ⟨g, rfl⟩ := ha (by omega)
    have hcap : zs.length ≤ cap := by
      rcases h.2 with ⟨e1, _⟩ | ⟨g', cap', cur, e1, hb, hg, hn', _⟩
      · simp at e1
      · simp at e1; omega
    refine (Try.slices_Compact_string g 0 cap zs w (holds_strs h rfl) (by omega) hcap).mono ?_
    rintro e w' ⟨rfl, q, rfl⟩
    have hsz : (Lib.compact zs ++ List.replicate (zs.length - (Lib.compact zs).length) []).length = zs.length := by simp; omega
    have hp := put_owns encStr h (Lib.compact zs ++ List.replicate (zs.length - (Lib.compact zs).length) []).toArray (by simp; omega) q #[]
    rw [Sort.grow_empty] at hp
    have hk := put_kp encStr w g q (Lib.compact zs ++ List.replicate (zs.length - (Lib.compact zs).length) []).toArray #[]
    rw [Sort.grow_empty] at hk
    refine ⟨_, rfl, ?_, rfl, hk⟩
    have := owns_shrink hp hc
    rw [Nat.mul_one] at this
    simp [strV_enc] at this
    rw [List.take_left' (by simp [strV])] at this
    exact this

theorem bs_own (B : Nat) (v : Value) (zs : List (List UInt8)) (x : List UInt8) (w : World) (h : w.ownsRow B 9 1 v zs.length (strV zs)) (hl : zs.length ≤ 1000000) (h0 : 0 < zs.length) :
    Calls Try.prog 47 #[v, .string ⟨x.toArray⟩] w fun e w' => (∃ b, e = .returned (.tuple #[.int .i64 (bsIx zs x), .bool b])) ∧ ∃ q, w' = w.drewN q := by
  obtain ⟨a, cap, rfl, ha⟩ := owns_forms h
  obtain ⟨g, rfl⟩ := ha h0
  have hcon := Any2.slices_BinarySearch_string Try.bsStr g 0 zs.length cap (fun t => ⟨(zs.getD t []).toArray⟩) ⟨x.toArray⟩ w (by omega) (by
    intro j hj
    have := strs_cells h rfl j hj
    rw [Nat.zero_add, this, List.getD_eq_getElem?_getD, List.getElem?_eq_getElem hj]; rfl)
  change Calls Try.prog 47 _ _ _ at hcon
  have e1 : (fun t => Op.bytesLess (ByteArray.mk (zs.getD t []).toArray).toList (ByteArray.mk x.toArray).toList) = fun t => Op.bytesLess (zs.getD t []) x := by
    funext t
    simp
  rw [e1] at hcon
  refine hcon.mono ?_
  rintro e w' ⟨rfl, q, rfl⟩
  exact ⟨⟨_, rfl⟩, q, rfl⟩
theorem owns_disj {w : World} {b b' n n' size size' : Nat} {e e' : TypeId} {v v' : Value} {xs xs' : List Value} (h : w.ownsRow b e size v n xs) (h' : w.ownsRow b' e' size' v' n' xs') (he : e ≠ e') : ∀ g, v.ownBlock = some g → v'.ownBlock ≠ some g := by
  intro g hg
  rcases h.2 with ⟨rfl, _⟩ | ⟨g', cap, cur, rfl, hb, hgg, rest⟩
  · simp [Value.ownBlock] at hg
  · simp [Value.ownBlock] at hg
    subst hg
    exact owns_ne h' hgg he
end Go.Proofs.Ytpdoacfiiledcaa.Pak
