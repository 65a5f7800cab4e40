import Derived.Test.YtpdoacfiiledcaaLay
import Derived.Test.YtpdoacfiiledcaaPakR
namespace Go.Proofs.Ytpdoacfiiledcaa.Pak
open Go.RowKit Go.Proofs.Ytpdoacfiiledcaa SiftM Go.Sort
set_option linter.unusedVariables false

theorem put_heap {α : Type} [Inhabited α] (enc : α → Value) (w : World) (g m : Nat) (d : Array α) (os : Array Obj) {cur : Array Value} {e : TypeId} {fr : Nat × Nat} (hg : w.heap[g]? = some (.cells cur e fr)) :
    (Sort.grow (Sort.putRow enc (Sort.ahead w m) g 0 d) os).heap[g]? = some (.cells (Sort.putCells enc 0 d cur) e fr) := by
  have hlt := heap_lt hg
  rw [Sort.heap_grow_old _ _ (by simpa using hlt)]
  simp only [Sort.putRow, Sort.mapBlock, Sort.ahead, Array.getElem?_modify, if_true, hg, Option.map_some, Sort.onCells]
theorem put_kp {α : Type} [Inhabited α] (enc : α → Value) (w : World) (g m : Nat) (d : Array α) (os : Array Obj) : Kp [g] w (Sort.grow (Sort.putRow enc (Sort.ahead w m) g 0 d) os) := by
  refine ⟨rfl, rfl, rfl, by simp [Sort.ahead], fun k hk hn => ?_⟩
  rw [Sort.heap_grow_old _ _ (by simpa [Sort.ahead] using hk)]
  simp only [Sort.putRow, Sort.mapBlock, Sort.ahead, Array.getElem?_modify]
  rw [if_neg (by simp at hn; omega)]
theorem putCells_take {α : Type} [Inhabited α] (enc : α → Value) (d : Array α) (cur : Array Value) (h : d.size ≤ cur.size) : (Sort.putCells enc 0 d cur).toList.take d.size = d.toList.map enc := by
  apply List.ext_getElem?
  intro i
  rw [List.getElem?_take]
  by_cases hi : i < d.size
  · rw [if_pos hi]
    have hc : i < cur.size := by omega
    rw [Array.getElem?_toList]
    simp only [Sort.putCells, Array.getElem?_mapIdx, Array.getElem?_eq_getElem hc, Option.map_some, Nat.zero_le, Nat.zero_add, hi, and_self, if_true, Nat.sub_zero]
    simp [hi]
  · rw [if_neg hi]
    symm
    exact List.getElem?_eq_none (by simp; omega)
/-- A row behind the library's sorts. -/
theorem put_owns {α : Type} [Inhabited α] (enc : α → Value) {w : World} {base g n cap size : Nat} {e : TypeId} {xs : List Value} (h : w.ownsRow base e size (.slice (some ⟨g, 0, none⟩) n cap) n xs) (d : Array α) (hd : d.size = n * size) (m : Nat) (os : Array Obj) :
    (Sort.grow (Sort.putRow enc (Sort.ahead w m) g 0 d) os).ownsRow base e size (.slice (some ⟨g, 0, none⟩) n cap) n (d.toList.map enc) := by
  rcases h.2 with ⟨e1, _⟩ | ⟨g', cap', cur, e1, hb, hg, hn, hcm, hcs, ht⟩
  · simp at e1
  · simp at e1
    obtain ⟨rfl, rfl⟩ := e1
    refine ⟨by simp [hd], .inr ⟨g, cap, _, rfl, hb, put_heap enc w g m d os hg, hn, hcm, by simp [Sort.putCells, hcs], ?_⟩⟩
    rw [← hd]
    exact putCells_take enc d cur (by rw [hd, hcs]; exact Nat.mul_le_mul_right _ hn)
theorem owns_shrink {w : World} {base g n n' cap size : Nat} {e : TypeId} {xs : List Value} (h : w.ownsRow base e size (.slice (some ⟨g, 0, none⟩) n cap) n xs) (hn : n' ≤ n) : w.ownsRow base e size (.slice (some ⟨g, 0, none⟩) n' cap) n' (xs.take (n' * size)) := by
  rcases h.2 with ⟨e1, _⟩ | ⟨g', cap', cur, e1, hb, hg, hn', hcm, hcs, ht⟩
  · simp at e1
  · simp at e1
    obtain ⟨rfl, rfl⟩ := e1
    have hm : n' * size ≤ n * size := Nat.mul_le_mul_right _ hn
    refine ⟨by rw [List.length_take, h.1]; omega, .inr ⟨g, cap, cur, rfl, hb, hg, by omega, hcm, hcs, ?_⟩⟩
    rw [← ht, List.take_take, Nat.min_eq_left hm]

abbrev Dc := Int × ByteArray
def encDoc (x : Dc) : List Value := [.int .i64 x.1, .string x.2]
def docV (D : List Dc) : List Value := D.flatMap encDoc
theorem docV_len (D : List Dc) : (docV D).length = D.length * 2 := by
  induction D with
  | nil => rfl
  | cons x r ih => simp [docV, encDoc] at ih ⊢; omega
theorem docV_get : ∀ (D : List Dc) (i : Nat) (h : i < D.length), (docV D)[i * 2]? = some (.int .i64 D[i].1) ∧ (docV D)[i * 2 + 1]? = some (.string D[i].2)
  | x :: r, 0, h => by simp [docV, encDoc]
  | x :: r, i + 1, h => by
    have ih := docV_get r i (by simpa using h)
    have e : docV (x :: r) = .int .i64 x.1 :: .string x.2 :: docV r := by simp [docV, encDoc]
    rw [e, show (i + 1) * 2 = i * 2 + 2 by omega, show i * 2 + 2 + 1 = i * 2 + 1 + 2 by omega]
    simpa using ih
theorem flat_docV (d : Array Dc) : (Sort.flatK encDoc 2 d).toList = docV d.toList := by
  apply List.ext_getElem?
  intro t
  by_cases ht : t < d.size * 2
  · have h1 := Sort.get_flatK encDoc 2 d t ht
    have hs : t < (Sort.flatK encDoc 2 d).size := by rw [Sort.size_flatK]; exact ht
    rw [Array.getElem?_toList, Array.getElem?_eq_getElem hs]
    rw [getElem!_pos _ t hs] at h1
    rw [h1]
    have hq : t / 2 < d.toList.length := by simp; omega
    have hg := docV_get d.toList (t / 2) hq
    have hd : d[t / 2]! = d.toList[t / 2] := by rw [getElem!_pos d (t / 2) (by simpa using hq)]; simp
    have : t % 2 = 0 ∨ t % 2 = 1 := by omega
    rcases this with e | e
    · have h3 := hg.1
      rw [show t / 2 * 2 = t by omega] at h3
      rw [h3, e, hd]
      rfl
    · have e2 : t = t / 2 * 2 + 1 := by omega
      have h3 := hg.2
      rw [← e2] at h3
      rw [h3, e, hd]
      rfl
  · rw [List.getElem?_eq_none (by simp; omega), List.getElem?_eq_none (by rw [docV_len]; simp; omega)]
end Go.Proofs.Ytpdoacfiiledcaa.Pak
