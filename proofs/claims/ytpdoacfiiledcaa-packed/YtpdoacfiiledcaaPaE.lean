import Derived.Test.YtpdoacfiiledcaaPaC
import Derived.Deep.RegionLaw
namespace Go.Proofs.Ytpdoacfiiledcaa.Pak
open Go.RowKit Go.Proofs.Ytpdoacfiiledcaa SiftM
set_option linter.unusedVariables false

abbrev Po := Nat × List Nat
/-- A list of postings. -/
structure PostIs (w : World) (base : Nat) (v : Value) (P : List Po) (pvs : List Value) : Prop where
  len : pvs.length = P.length
  row : w.ownsRow base 103 2 v P.length (tx2 ((P.map Prod.fst).zip pvs))
  each : ∀ i (h : i < P.length) (h2 : i < pvs.length), w.ownsRow base 3 1 pvs[i] P[i].2.length (intV P[i].2)
  apart : ∀ i j (hi : i < pvs.length) (hj : j < pvs.length), i < j → ∀ g, pvs[i].ownBlock = some g → pvs[j].ownBlock ≠ some g
def foot (v : Value) (pvs : List Value) : List Nat := v.ownBlock.toList ++ pvs.flatMap fun u => u.ownBlock.toList
theorem foot_row {v : Value} {pvs : List Value} {g : Nat} (h : v.ownBlock = some g) : g ∈ foot v pvs := by simp [foot, h]
theorem foot_each {v : Value} {pvs : List Value} {i g : Nat} (hi : i < pvs.length) (h : pvs[i].ownBlock = some g) : g ∈ foot v pvs := by
  simp only [foot, List.mem_append, List.mem_flatMap]
  exact .inr ⟨pvs[i], List.getElem_mem hi, by simp [h]⟩
theorem PostIs.nil (w : World) (base : Nat) : PostIs w base (.slice none 0 0) [] [] := ⟨rfl, World.ownsRow_nil _ _ _ _, fun i h => by simp at h, fun i j h => by simp at h⟩
theorem PostIs.kp {S : List Nat} {w w' : World} {base : Nat} {v : Value} {P : List Po} {pvs : List Value} (h : PostIs w base v P pvs) (k : Kp S w w') (hS : ∀ x ∈ S, x ∉ foot v pvs) : PostIs w' base v P pvs :=
  ⟨h.len, k.owns h.row (fun g hg hx => hS g hx (foot_row hg)), fun i h1 h2 => k.owns (h.each i h1 h2) (fun g hg hx => hS g hx (foot_each h2 hg)), h.apart⟩
theorem PostIs.foot_lt {w : World} {base : Nat} {v : Value} {P : List Po} {pvs : List Value} (h : PostIs w base v P pvs) : ∀ x ∈ foot v pvs, base ≤ x ∧ x < w.heap.size := by
  intro x hx
  simp only [foot, List.mem_append, List.mem_flatMap] at hx
  rcases hx with hx | ⟨u, hu, hx⟩
  · exact h.row.lt x (by simpa using hx)
  · obtain ⟨i, hi, rfl⟩ := List.getElem_of_mem hu
    exact (h.each i (by rw [← h.len]; exact hi) hi).lt x (by simpa using hx)
theorem PostIs.cells {w : World} {base g cap n : Nat} {P : List Po} {pvs : List Value} (h : PostIs w base (.slice (some ⟨g, 0, none⟩) n cap) P pvs) (i : Nat) (hi : i < P.length) (h2 : i < pvs.length) :
    w.cell? ⟨g, i * 2, none⟩ = some (.int .i64 (P[i].1 : Int)) ∧ w.cell? ⟨g, i * 2 + 1, none⟩ = some pvs[i] := by
  have hz : i < ((P.map Prod.fst).zip pvs).length := by simp; omega
  have hg := tx2_get ((P.map Prod.fst).zip pvs) i hz
  have ea : ∀ j, (⟨g, 0, none⟩ : Addr).add j = ⟨g, j, none⟩ := by intro j; unfold Addr.add; split <;> simp_all
  have c0 := h.row.cells (g := g) rfl _ _ hg.1
  have c1 := h.row.cells (g := g) rfl _ _ hg.2
  rw [ea] at c0 c1
  simp at c0 c1
  exact ⟨c0, c1⟩
def wsF (P : List Po) (d p : Nat) : List Po :=
  match P.getLast? with
  | none => [(d, [p])]
  | some l => if l.1 = d then P.dropLast ++ [(d, l.2 ++ [p])] else P ++ [(d, [p])]
theorem info103 : (Try.prog.info? 103).map (fun i => (i.zero, i.size, i.bytes)) = some (some (.agg #[.int .i64 0, .slice none 0 0]), 2, 32) := by kernel_rfl

/-- Postings behind an append of one more. -/
theorem PostIs.snoc {w w2 : World} {base : Nat} {v v' lv : Value} {P : List Po} {pvs : List Value} {d : Nat} {ps : List Nat} (h : PostIs w base v P pvs) (hl : w.ownsRow base 3 1 lv ps.length (intV ps)) (hap : ∀ i (hi : i < pvs.length), ∀ g, pvs[i].ownBlock = some g → lv.ownBlock ≠ some g)
    (hrow : w2.ownsRow base 103 2 v' (P.length + 1) (tx2 ((P.map Prod.fst).zip pvs) ++ [.int .i64 (d : Int), lv])) (k : Kp v.ownBlock.toList w w2) : PostIs w2 base v' (P ++ [(d, ps)]) (pvs ++ [lv]) := by
  have hne : ∀ {n : Nat} {u : Value} {xs : List Value}, w.ownsRow base 3 1 u n xs → ∀ g, u.ownBlock = some g → g ∉ v.ownBlock.toList := by
    intro n u xs hu g hg hx
    exact owns_disj hu h.row (by decide) g hg (by simpa using hx)
  refine ⟨by simp [h.len], ?_, ?_, ?_⟩
  · rw [List.length_append, List.map_append, List.zip_append (by simp [h.len]), show [(d, ps)].map Prod.fst = [d] from rfl, show [d].zip [lv] = [(d, lv)] from rfl, tx2_snoc]
    exact hrow
  · intro i h1 h2
    by_cases e : i < P.length
    · have e2 : i < pvs.length := by rw [h.len]; exact e
      rw [List.getElem_append_left e2]
      simp only [List.getElem_append_left e]
      exact k.owns (h.each i e e2) (hne (h.each i e e2))
    · have ei : i = P.length := by simp at h1; omega
      subst ei
      have e2 : (pvs ++ [lv])[P.length] = lv := by rw [List.getElem_append_right (by rw [h.len]; omega)]; simp [h.len]
      rw [e2]
      simp only [List.getElem_append_right (Nat.le_refl _), Nat.sub_self, List.getElem_cons_zero]
      exact k.owns hl (hne hl)
  · intro i j hi hj hij g hg
    by_cases e : j < pvs.length
    · rw [List.getElem_append_left e]
      rw [List.getElem_append_left (by omega)] at hg
      exact h.apart i j (by omega) e hij g hg
    · have ej : j = pvs.length := by simp at hj; omega
      subst ej
      rw [List.getElem_append_left (by omega)] at hg
      have e2 : (pvs ++ [lv])[pvs.length] = lv := by rw [List.getElem_append_right (Nat.le_refl _)]; simp
      rw [e2]
      exact hap i (by omega) g hg

/-- What withSpot leaves. -/
def SpotPost (w : World) (base : Nat) (v : Value) (P : List Po) (pvs : List Value) (d p : Nat) (e : Ending) (w' : World) : Prop :=
  ∃ v' pvs', e = .returned v' ∧ PostIs w' base v' (wsF P d p) pvs' ∧ Kp (foot v pvs) w w' ∧ ∀ x ∈ foot v' pvs', x ∈ foot v pvs ∨ w.heap.size ≤ x
end Go.Proofs.Ytpdoacfiiledcaa.Pak
