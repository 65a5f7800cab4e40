import Derived.Test.YtpdoacfiiledcaaPakR
import Derived.Deep.AppendLies
namespace Go.Proofs.Ytpdoacfiiledcaa.Pak
open Go.RowKit Go.Proofs.Ytpdoacfiiledcaa SiftM
set_option linter.unusedVariables false

def tx2 (xs : List (Nat × Value)) : List Value := xs.flatMap fun x => [Value.int .i64 (x.1 : Int), x.2]
def z2 : Nat → List Value
  | 0 => []
  | n + 1 => .int .i64 0 :: .slice none 0 0 :: z2 n
def partT (xs : List (Nat × Value)) (n : Nat) : Array Value := (tx2 xs ++ z2 (n - xs.length)).toArray
theorem tx2_len (xs : List (Nat × Value)) : (tx2 xs).length = xs.length * 2 := by
  induction xs with
  | nil => rfl
  | cons x r ih => simp [tx2] at ih ⊢; omega
theorem tx2_snoc (xs : List (Nat × Value)) (x : Nat × Value) : tx2 (xs ++ [x]) = tx2 xs ++ [.int .i64 (x.1 : Int), x.2] := by simp [tx2]
theorem z2_len (n : Nat) : (z2 n).length = n * 2 := by
  induction n with
  | zero => rfl
  | succ n ih => simp [z2, ih]; omega
theorem partT_id (xs : List (Nat × Value)) (n id : Nat) (h : xs.length < n) : (partT xs n).setIfInBounds (xs.length * 2) (.int .i64 (id : Int)) = partT (xs ++ [(id, .slice none 0 0)]) n := by
  unfold partT
  obtain ⟨d, hd⟩ : ∃ d, n - xs.length = d + 1 := ⟨n - xs.length - 1, by omega⟩
  have hd2 : n - (xs ++ [(id, Value.slice none 0 0)]).length = d := by simp; omega
  rw [hd2, hd, List.setIfInBounds_toArray]
  congr 1
  rw [tx2_snoc, List.set_append_right _ _ (by rw [tx2_len]; omega), tx2_len, Nat.sub_self, z2, List.set_cons_zero]
  simp
theorem partT_w (xs : List (Nat × Value)) (n id : Nat) (v0 v : Value) : (partT (xs ++ [(id, v0)]) n).setIfInBounds (xs.length * 2 + 1) v = partT (xs ++ [(id, v)]) n := by
  unfold partT
  have e1 : (xs ++ [(id, v0)]).length = (xs ++ [(id, v)]).length := by simp
  rw [e1, List.setIfInBounds_toArray]
  congr 1
  rw [tx2_snoc, tx2_snoc, List.append_assoc, List.append_assoc, List.set_append_right _ _ (by rw [tx2_len]; omega), tx2_len, show xs.length * 2 + 1 - xs.length * 2 = 1 by omega]
  simp
theorem partT_c0 {w : World} {L n : Nat} {xs : List (Nat × Value)} (h : w.heap[L]? = some (.cells (partT xs n) 52 (0, 0))) (hl : xs.length < n) : w.cell? ⟨L, xs.length * 2, none⟩ = some (.int .i64 0) ∧ w.frozen? ⟨L, xs.length * 2, none⟩ = false := by
  obtain ⟨d, hd⟩ : ∃ d, n - xs.length = d + 1 := ⟨n - xs.length - 1, by omega⟩
  constructor
  · simp only [World.cell?, h]
    unfold partT
    rw [List.getElem?_toArray, List.getElem?_append_right (by rw [tx2_len]; omega), tx2_len, Nat.sub_self, hd]
    rfl
  · simp [World.frozen?, h]
theorem partT_c1 {w : World} {L n id : Nat} {xs : List (Nat × Value)} {v : Value} (h : w.heap[L]? = some (.cells (partT (xs ++ [(id, v)]) n) 52 (0, 0))) : w.cell? ⟨L, xs.length * 2 + 1, none⟩ = some v ∧ w.frozen? ⟨L, xs.length * 2 + 1, none⟩ = false := by
  constructor
  · simp only [World.cell?, h]
    unfold partT
    rw [List.getElem?_toArray, tx2_snoc, List.append_assoc, List.getElem?_append_right (by rw [tx2_len]; omega), tx2_len, show xs.length * 2 + 1 - xs.length * 2 = 1 by omega]
    rfl
  · simp [World.frozen?, h]

theorem info52 : (Try.prog.info? 52).map (fun i => (i.zero, i.size, i.bytes)) = some (some (.agg #[.int .i64 0, .slice none 0 0]), 2, 32) := by kernel_rfl
theorem z2_at : ∀ (n i : Nat), i < n * 2 → (z2 n)[i]? = some (if i % 2 = 0 then .int .i64 0 else .slice none 0 0)
  | 0, i, h => by omega
  | n + 1, 0, h => by simp [z2]
  | n + 1, 1, h => by simp [z2]
  | n + 1, i + 2, h => by
    have := z2_at n i (by omega)
    simp only [z2, List.getElem?_cons_succ]
    rw [this]
    congr 2
    simp
theorem made_two (n : Nat) : madeCells #[.int .i64 0, .slice none 0 0] (n * 2) = (z2 n).toArray := by
  apply Array.ext
  · simp [size_madeCells, z2_len]
  · intro i h1 h2
    have h3 : i < n * 2 := by simpa [size_madeCells] using h1
    have h4 := z2_at n i h3
    have h5 : (z2 n).toArray[i]? = some ((z2 n).toArray[i]) := Array.getElem?_eq_getElem h2
    rw [List.getElem?_toArray, h4] at h5
    simp only [Option.some.injEq] at h5
    rw [← h5]
    simp only [madeCells, Array.getElem_map, Array.getElem_range]
    have : i % 2 = 0 ∨ i % 2 = 1 := by omega
    rcases this with e | e <;> simp [e]
theorem make_texts (c : Nat) (w : World) (hc : c ≤ 1000000) : (Instr.makeSlice 33 (.int .i64 c) (.int .i64 c)).run Try.prog w = .ok (.slice (some ⟨w.heap.size, 0, none⟩) c c) (w.alloc (.cells (partT [] c) 52)) := by
  obtain ⟨i0, hi, hz0, hz1, hz2⟩ := info_parts info52
  have := run_make (P := Try.prog) w 33 52 i0 (.agg #[.int .i64 0, .slice none 0 0]) Try.underlying33 hi hz0 .i64 .i64 c c (by omega) (by omega) (by rw [hz2]; omega) (by omega)
  rw [hz1] at this
  simp only [Int.toNat_natCast] at this
  rw [this, show (Value.agg #[.int .i64 0, .slice none 0 0]).cells = #[.int .i64 0, .slice none 0 0] from rfl, made_two]
  simp [partT, tx2]

/-- A list of texts: v holds T; vs: the lists of their words. -/
structure TextsIs (w : World) (base : Nat) (v : Value) (T : List (Nat × List (List UInt8))) (vs : List Value) : Prop where
  len : vs.length = T.length
  row : w.ownsRow base 52 2 v T.length (tx2 ((T.map Prod.fst).zip vs))
  each : ∀ i (h : i < T.length) (h2 : i < vs.length), w.ownsRow base 9 1 vs[i] T[i].2.length (strV T[i].2)
  apart : ∀ i j (hi : i < vs.length) (hj : j < vs.length), i < j → ∀ g, vs[i].ownBlock = some g → vs[j].ownBlock ≠ some g
end Go.Proofs.Ytpdoacfiiledcaa.Pak
