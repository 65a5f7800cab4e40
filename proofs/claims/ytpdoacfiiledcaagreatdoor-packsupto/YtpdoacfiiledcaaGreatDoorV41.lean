import Derived.Test.YtpdoacfiiledcaaGreatDoorV39
import Derived.Test.YtpdoacfiiledcaaGreatDoorV40
import Derived.ProofKit
import Derived.OpenShut
import Derived.Deep.Slices
import Derived.Deep.SlicePairs
import Derived.ChangeOld
namespace Go.Proofs.YtpdoacfiiledcaaGreatDoor
open Go.ChangeShapes Go.WideShapes Go.ChangeAt Go.RowKit
set_option linter.unusedVariables false

theorem addr_plain (b off k : Nat) : (⟨b, off, none⟩ : Addr).add k = ⟨b, off + k, none⟩ := by unfold Addr.add; split <;> simp_all

/-- The docs of a step, out of their reading. -/
theorem docs_open {H : Type} {enc : TypeId × Value → H} {W : World} {fuel : Nat} {v : Value} {x : DataW H × List MemPlace} (h : DataW.trod enc Tryz.prog W 0 (fun _ => true) true fuel 66 [v] = some x) :
    ∃ (al : Option Addr) (n capl : Nat) (D : List Pak.Dc), v = .slice al n capl ∧ Pak.DocsAt W al D ∧ D.length = n ∧ (al = none → n = 0 ∧ capl = 0) ∧ (n = 0 ∨ ∃ el sp, x.1 = .slice el sp ∧ el.length = n) := by
  rcases Deep.open_slice_pairs Tryz.underlying66 Tryz.underlying261 (by kernel_rfl) rfl rfl (by kernel_rfl) (by kernel_rfl) h with ⟨hcs, _⟩ | ⟨ad, l, c, m, n, V0, V1, D0, D1, P0, P1, hcs, hb, hl, hm, hmm, hx1, hx⟩
  · simp at hcs
    subst hcs
    exact ⟨none, 0, 0, [], rfl, .inl rfl, rfl, fun _ => ⟨rfl, rfl⟩, .inl rfl⟩
  · simp at hcs
    subst hcs
    have hlm : l ≤ m := by rw [hmm]; split <;> omega
    have each : ∀ i, i < l → ∃ q : Pak.Dc, W.cell? (ad.add (i * 2)) = some (.int .i64 q.1) ∧ W.cell? (ad.add (i * 2 + 1)) = some (.string q.2) := by
      intro i hi
      obtain ⟨c0, c1, t0, t1⟩ := hx i (by omega)
      obtain ⟨z, e0, _, hw⟩ := DataW.trod_int Tryz.underlying3 t0
      obtain ⟨s, e1, _, hs⟩ := DataW.trod_string Tryz.underlying9 t1
      have e0' : V0 i = .int .i64 z := by simpa using e0
      have e1' : V1 i = .string s := by simpa using e1
      exact ⟨(z, s), by rw [c0, e0'], by rw [c1, e1']⟩
    obtain ⟨q, hq⟩ := Deep.choose_lt each
    refine ⟨some ad, l, c, (List.range l).map q, rfl, ?_, by simp, (fun e => by cases e), .inr ⟨_, _, by rw [hx1], by simp⟩⟩
    by_cases h0 : l = 0
    · left; simp [h0]
    · right
      obtain ⟨b, off, spot⟩ := ad
      have hc := (hq 0 (by omega)).1
      have hspot : spot = none := by simpa [Addr.add] using World.cell?_spot hc
      subst hspot
      have hlt := World.block_lt_of_cell? W _ hc
      rw [addr_plain] at hlt
      refine ⟨b, off, rfl, hlt, fun i hi => ?_⟩
      have hi' : i < l := by simpa using hi
      obtain ⟨c0, c1⟩ := hq i hi'
      rw [addr_plain] at c0 c1
      simp only [List.getElem_map, List.getElem_range]
      exact ⟨c0, by rw [Nat.add_assoc]; exact c1⟩

/-- What a step's reading tells of it. -/
structure OpRead {H : Type} (W : World) (d : DataW H) (s : ByteArray) (al : Option Addr) (n capl : Nat) (D : List Pak.Dc) : Prop where
  docs : Pak.DocsAt W al D
  len : D.length = n
  none' : al = none → n = 0 ∧ capl = 0
  parts : ∃ ps, d = .agg ps ∧ DataW.lit (.string s.data.toList) ∈ ps ∧ (n = 0 ∨ ∃ el sp, DataW.slice el sp ∈ ps ∧ el.length = n)

/-- One step, out of its reading, with its docs. -/
theorem op_openD {H : Type} {enc : TypeId × Value → H} {W : World} {n : Nat} {cs : List Value} {x : DataW H × List MemPlace} (h : DataW.trod enc Tryz.prog W 0 (fun _ => true) true n 69 cs = some x) :
    ∃ (k a b' c d : Int) (s : ByteArray) (al : Option Addr) (n capl : Nat) (nm fl : Value) (D : List Pak.Dc), cs = [.int .i64 k, .int .i64 a, .int .i64 b', .int .i64 c, .int .i64 d, .string s, .slice al n capl, nm, fl] ∧ OpRead W x.1 s al n capl D := by
  obtain ⟨xs, m, rfl, hx, hl, hxs, hf⟩ := DataW.trod_struct Tryz.underlying69 h
  rw [Tryz.cells69] at hl
  obtain ⟨c0, c1, c2, c3, c4, c5, c6, c7, c8, rfl⟩ := nine hl
  have hxl : xs.length = 9 := hxs
  have g0 : DataW.trod enc Tryz.prog W 0 (fun _ => true) true m 3 (([c0, c1, c2, c3, c4, c5, c6, c7, c8].drop 0).take (Tryz.prog.cellsOf 3)) = xs[0]? := hf 0 _ rfl
  rw [Tryz.cells3] at g0
  have g1 : DataW.trod enc Tryz.prog W 0 (fun _ => true) true m 3 (([c0, c1, c2, c3, c4, c5, c6, c7, c8].drop 1).take (Tryz.prog.cellsOf 3)) = xs[1]? := hf 1 _ rfl
  rw [Tryz.cells3] at g1
  have g2 : DataW.trod enc Tryz.prog W 0 (fun _ => true) true m 3 (([c0, c1, c2, c3, c4, c5, c6, c7, c8].drop 2).take (Tryz.prog.cellsOf 3)) = xs[2]? := hf 2 _ rfl
  rw [Tryz.cells3] at g2
  have g3 : DataW.trod enc Tryz.prog W 0 (fun _ => true) true m 3 (([c0, c1, c2, c3, c4, c5, c6, c7, c8].drop 3).take (Tryz.prog.cellsOf 3)) = xs[3]? := hf 3 _ rfl
  rw [Tryz.cells3] at g3
  have g4 : DataW.trod enc Tryz.prog W 0 (fun _ => true) true m 3 (([c0, c1, c2, c3, c4, c5, c6, c7, c8].drop 4).take (Tryz.prog.cellsOf 3)) = xs[4]? := hf 4 _ rfl
  rw [Tryz.cells3] at g4
  have g5 : DataW.trod enc Tryz.prog W 0 (fun _ => true) true m 9 (([c0, c1, c2, c3, c4, c5, c6, c7, c8].drop 5).take (Tryz.prog.cellsOf 9)) = xs[5]? := hf 5 _ rfl
  rw [Tryz.cells9] at g5
  have g6 : DataW.trod enc Tryz.prog W 0 (fun _ => true) true m 66 (([c0, c1, c2, c3, c4, c5, c6, c7, c8].drop 6).take (Tryz.prog.cellsOf 66)) = xs[6]? := hf 6 _ rfl
  rw [Tryz.cells66] at g6
  rw [List.getElem?_eq_getElem (by omega)] at g0 g1 g2 g3 g4 g5 g6
  obtain ⟨k, e0, _, _⟩ := DataW.trod_int Tryz.underlying3 g0
  obtain ⟨a, e1, _, _⟩ := DataW.trod_int Tryz.underlying3 g1
  obtain ⟨b', e2, _, _⟩ := DataW.trod_int Tryz.underlying3 g2
  obtain ⟨c, e3, _, _⟩ := DataW.trod_int Tryz.underlying3 g3
  obtain ⟨d, e4, _, _⟩ := DataW.trod_int Tryz.underlying3 g4
  obtain ⟨s, e5, hs5, hs⟩ := DataW.trod_string Tryz.underlying9 g5
  obtain ⟨al, n6, capl, D, e6, hd, hlD, hno, hn6⟩ := docs_open g6
  simp at e0 e1 e2 e3 e4 e5
  subst e0 e1 e2 e3 e4 e5 e6
  refine ⟨k, a, b', c, d, s, al, n6, capl, c7, c8, D, rfl, hd, hlD, hno, xs.map (·.1), by rw [hx], ?_, ?_⟩
  · refine List.mem_map.2 ⟨xs[5], List.getElem_mem _, ?_⟩
    rw [hs5]
  · rcases hn6 with h0 | ⟨el, sp, h6, hlen⟩
    · exact .inl h0
    · exact .inr ⟨el, sp, List.mem_map.2 ⟨xs[6], List.getElem_mem _, h6⟩, hlen⟩

/-- WHAT THE ARGUMENT GIVES: a script that is empty, or lies in memory step by step, and what its reading tells. -/
theorem script_openD {H : Type} {enc : TypeId × Value → H} {W : World} {a0 : Option Addr} {len0 cap0 : Nat} {d0 : DataW H} {p0 : List MemPlace} (h : DataW.Trod enc Tryz.prog W 0 (fun _ => true) true 22 (.slice a0 len0 cap0) d0 p0) :
    len0 = 0 ∨ ∃ b off elems sp, a0 = some ⟨b, off, none⟩ ∧ b < W.heap.size ∧ d0 = .slice elems sp ∧ elems.length = len0 ∧ ∀ i, i < len0 → ∃ (k a b' c d : Int) (s : ByteArray) (al : Option Addr) (n capl : Nat) (nm fl : Value) (D : List Pak.Dc) (e : DataW H), e ∈ elems ∧ OpAt W b (off + i * 9) k a b' c d s (.slice al n capl) nm fl ∧ OpRead W e s al n capl D := by
  obtain ⟨fuel, hf⟩ := h
  rcases Deep.open_slice Tryz.underlying22 hf with ⟨hcs, _⟩ | ⟨x, l, c, m, n, D, Pl, hcs, _, hl, hm, hmm, hx, hel⟩
  · simp [Value.cells] at hcs
    exact Or.inl hcs.2.1
  · simp [Value.cells] at hcs
    obtain ⟨rfl, rfl, rfl⟩ := hcs
    simp only [if_true] at hmm
    subst hmm
    rw [Tryz.cells69] at hel
    by_cases h0 : len0 = 0
    · exact Or.inl h0
    right
    obtain ⟨b, off, spot⟩ := x
    have key : ∀ i, i < len0 → ∃ (k a b' c d : Int) (s : ByteArray) (al : Option Addr) (n capl : Nat) (nm fl : Value) (Dd : List Pak.Dc), W.cells? 0 ((⟨b, off, spot⟩ : Addr).add (i * 9)) 9 = some [.int .i64 k, .int .i64 a, .int .i64 b', .int .i64 c, .int .i64 d, .string s, .slice al n capl, nm, fl] ∧ OpRead W (D i) s al n capl Dd := by
      intro i hi
      obtain ⟨cs, h1, h2⟩ := hel i (by omega)
      obtain ⟨k, a, b', c, d, s, al, n, capl, nm, fl, Dd, rfl, hr⟩ := op_openD h2
      exact ⟨k, a, b', c, d, s, al, n, capl, nm, fl, Dd, h1, hr⟩
    obtain ⟨k, a, b', c, d, s, al, n, capl, nm, fl, Dd, hc, _⟩ := key 0 (by omega)
    have hb := World.cells?_block hc (by omega)
    have h00 := (World.cells?_some hc).2.2 0 (by omega)
    have hspot : spot = none := by simpa [Addr.add] using World.cell?_spot h00
    subst hspot
    simp only [Prod.mk.injEq] at hx
    refine ⟨b, off, _, _, rfl, by simpa [Addr.add] using hb, hx.1, by simp, ?_⟩
    intro i hi
    obtain ⟨k, a, b', c, d, s, al, n, capl, nm, fl, Dd, hc, hr⟩ := key i hi
    have hall := (World.cells?_some hc).2.2
    have hadd : ∀ j, ((⟨b, off, none⟩ : Addr).add (i * 9)).add j = ⟨b, off + i * 9 + j, none⟩ := by
      intro j
      rw [addr_plain, addr_plain]
    refine ⟨k, a, b', c, d, s, al, n, capl, nm, fl, Dd, D i, List.mem_map.2 ⟨i, by simpa using hi, rfl⟩, ?_, hr⟩
    unfold OpAt
    have q0 := hall 0 (by omega)
    have q1 := hall 1 (by omega)
    have q2 := hall 2 (by omega)
    have q3 := hall 3 (by omega)
    have q4 := hall 4 (by omega)
    have q5 := hall 5 (by omega)
    have q6 := hall 6 (by omega)
    have q7 := hall 7 (by omega)
    have q8 := hall 8 (by omega)
    rw [hadd] at q0 q1 q2 q3 q4 q5 q6 q7 q8
    exact ⟨q0, q1, q2, q3, q4, q5, q6, q7, q8⟩
end Go.Proofs.YtpdoacfiiledcaaGreatDoor
