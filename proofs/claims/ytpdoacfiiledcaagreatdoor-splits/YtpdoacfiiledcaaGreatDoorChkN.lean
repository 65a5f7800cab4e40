import Derived.Test.YtpdoacfiiledcaaGreatDoorRows
import Derived.Test.YtpdoacfiiledcaaGreatDoorChkM
import Derived.ProofKit
import Derived.OpenShut
import Derived.Deep.Slices
import Derived.ChangeOld
namespace Go.Proofs.YtpdoacfiiledcaaGreatDoor
open Go.ChangeShapes Go.WideShapes Go.ChangeAt Go.RowKit
set_option linter.unusedVariables false

theorem Tryz.cells69 : Tryz.prog.cellsOf 69 = 9 := by kernel_rfl
theorem Tryz.cells3 : Tryz.prog.cellsOf 3 = 1 := by kernel_rfl
theorem Tryz.cells9 : Tryz.prog.cellsOf 9 = 1 := by kernel_rfl
theorem Tryz.cells66 : Tryz.prog.cellsOf 66 = 1 := by kernel_rfl
theorem Tryz.cells67 : Tryz.prog.cellsOf 67 = 1 := by kernel_rfl

theorem nine {cs : List Value} (h : cs.length = 9) : ∃ c0 c1 c2 c3 c4 c5 c6 c7 c8, cs = [c0, c1, c2, c3, c4, c5, c6, c7, c8] := by
  match cs, h with
  | [c0, c1, c2, c3, c4, c5, c6, c7, c8], _ => exact ⟨c0, c1, c2, c3, c4, c5, c6, c7, c8, rfl⟩

/-- One step, out of its reading. -/
theorem op_open {H : Type} {enc : TypeId × Value → H} {W : World} {base : Nat} {spare : Nat → Bool} {held : Bool} {n : Nat} {cs : List Value} {x : DataW H × List MemPlace} (h : DataW.trod enc Tryz.prog W base spare held n 69 cs = some x) :
    ∃ (k a b' c d : Int) (s : ByteArray) (l n f : Value), cs = [.int .i64 k, .int .i64 a, .int .i64 b', .int .i64 c, .int .i64 d, .string s, l, n, f] ∧ s.size ≤ maxLen := by
  obtain ⟨xs, m, rfl, hx, hl, hxs, hf⟩ := DataW.trod_struct Tryz.underlying69 h
  rw [Tryz.cells69] at hl
  obtain ⟨c0, c1, c2, c3, c4, c5, c6, c7, c8, rfl⟩ := nine hl
  have hxl : xs.length = 9 := hxs
  have g0 : DataW.trod enc Tryz.prog W base spare held m 3 (([c0, c1, c2, c3, c4, c5, c6, c7, c8].drop 0).take (Tryz.prog.cellsOf 3)) = xs[0]? := hf 0 _ rfl
  rw [Tryz.cells3] at g0
  have g1 : DataW.trod enc Tryz.prog W base spare held m 3 (([c0, c1, c2, c3, c4, c5, c6, c7, c8].drop 1).take (Tryz.prog.cellsOf 3)) = xs[1]? := hf 1 _ rfl
  rw [Tryz.cells3] at g1
  have g2 : DataW.trod enc Tryz.prog W base spare held m 3 (([c0, c1, c2, c3, c4, c5, c6, c7, c8].drop 2).take (Tryz.prog.cellsOf 3)) = xs[2]? := hf 2 _ rfl
  rw [Tryz.cells3] at g2
  have g3 : DataW.trod enc Tryz.prog W base spare held m 3 (([c0, c1, c2, c3, c4, c5, c6, c7, c8].drop 3).take (Tryz.prog.cellsOf 3)) = xs[3]? := hf 3 _ rfl
  rw [Tryz.cells3] at g3
  have g4 : DataW.trod enc Tryz.prog W base spare held m 3 (([c0, c1, c2, c3, c4, c5, c6, c7, c8].drop 4).take (Tryz.prog.cellsOf 3)) = xs[4]? := hf 4 _ rfl
  rw [Tryz.cells3] at g4
  have g5 : DataW.trod enc Tryz.prog W base spare held m 9 (([c0, c1, c2, c3, c4, c5, c6, c7, c8].drop 5).take (Tryz.prog.cellsOf 9)) = xs[5]? := hf 5 _ rfl
  rw [Tryz.cells9] at g5
  rw [List.getElem?_eq_getElem (by omega)] at g0 g1 g2 g3 g4 g5
  obtain ⟨k, e0, _, _⟩ := DataW.trod_int Tryz.underlying3 g0
  obtain ⟨a, e1, _, _⟩ := DataW.trod_int Tryz.underlying3 g1
  obtain ⟨b', e2, _, _⟩ := DataW.trod_int Tryz.underlying3 g2
  obtain ⟨c, e3, _, _⟩ := DataW.trod_int Tryz.underlying3 g3
  obtain ⟨d, e4, _, _⟩ := DataW.trod_int Tryz.underlying3 g4
  obtain ⟨s, e5, _, hs⟩ := DataW.trod_string Tryz.underlying9 g5
  simp at e0 e1 e2 e3 e4 e5
  subst e0 e1 e2 e3 e4 e5
  exact ⟨k, a, b', c, d, s, c6, c7, c8, rfl, hs⟩

/-- WHAT THE ARGUMENT GIVES: a script that is empty, or lies in memory step by step. -/
theorem script_open {H : Type} {enc : TypeId × Value → H} {W : World} {a0 : Option Addr} {len0 cap0 : Nat} {d0 : DataW H} {p0 : List MemPlace} (h : DataW.Trod enc Tryz.prog W 0 (fun _ => true) true 22 (.slice a0 len0 cap0) d0 p0) :
    len0 = 0 ∨ ∃ b off, a0 = some ⟨b, off, none⟩ ∧ b < W.heap.size ∧ len0 ≤ 9223372036854775807 ∧ ScriptAt W b off len0 := by
  obtain ⟨fuel, hf⟩ := h
  rcases Deep.open_slice Tryz.underlying22 hf with ⟨hcs, _⟩ | ⟨x, l, c, m, n, D, Pl, hcs, _, hl, hm, hmm, _, hel⟩
  · simp [Value.cells] at hcs
    exact Or.inl hcs.2.1
  · simp [Value.cells] at hcs
    obtain ⟨rfl, rfl, rfl⟩ := hcs
    simp only [if_true] at hmm
    subst hmm
    rw [Tryz.cells69] at hel
    by_cases h0 : len0 = 0
    · exact Or.inl h0
    right
    obtain ⟨b, off, spot⟩ := x
    have key : ∀ i, i < len0 → ∃ (k a b' c d : Int) (s : ByteArray) (l n f : Value), W.cells? 0 ((⟨b, off, spot⟩ : Addr).add (i * 9)) 9 = some [.int .i64 k, .int .i64 a, .int .i64 b', .int .i64 c, .int .i64 d, .string s, l, n, f] := by
      intro i hi
      obtain ⟨cs, h1, h2⟩ := hel i (by omega)
      obtain ⟨k, a, b', c, d, s, l, n, f, rfl, _⟩ := op_open h2
      exact ⟨k, a, b', c, d, s, l, n, f, h1⟩
    obtain ⟨k, a, b', c, d, s, l, n, f, hc⟩ := key 0 (by omega)
    have hb := World.cells?_block hc (by omega)
    have h00 := (World.cells?_some hc).2.2 0 (by omega)
    have hspot : spot = none := by simpa [Addr.add] using World.cell?_spot h00
    subst hspot
    refine ⟨b, off, rfl, by simpa [Addr.add] using hb, by unfold maxLen at hm; omega, ?_⟩
    intro i hi
    obtain ⟨k, a, b', c, d, s, l, n, f, hc⟩ := key i hi
    have hall := (World.cells?_some hc).2.2
    have hadd : ∀ j, ((⟨b, off, none⟩ : Addr).add (i * 9)).add j = ⟨b, off + i * 9 + j, none⟩ := by
      intro j
      rw [Deep.add_add]
      unfold Addr.add
      by_cases e : i * 9 + j = 0
      · rw [if_pos e]
        have e1 : off + i * 9 + j = off := by omega
        rw [e1]
      · rw [if_neg e, Nat.add_assoc]
    refine ⟨k, a, b', c, d, s, l, n, f, ?_⟩
    unfold OpAt
    have q0 := hall 0 (by omega)
    have q1 := hall 1 (by omega)
    have q2 := hall 2 (by omega)
    have q3 := hall 3 (by omega)
    have q4 := hall 4 (by omega)
    have q5 := hall 5 (by omega)
    have q6 := hall 6 (by omega)
    have q7 := hall 7 (by omega)
    have q8 := hall 8 (by omega)
    rw [hadd] at q0 q1 q2 q3 q4 q5 q6 q7 q8
    exact ⟨q0, q1, q2, q3, q4, q5, q6, q7, q8⟩
end Go.Proofs.YtpdoacfiiledcaaGreatDoor
