import Derived.Test.YtnffagpdnklnkaaGreatDoorV41
import Derived.ProofKit
import Derived.OpenShut
import Derived.Deep.Slices
import Derived.Deep.SlicePairs
import Derived.ChangeOld
set_option linter.unusedVariables false
set_option linter.unusedSimpArgs false
set_option maxRecDepth 8000
namespace Go.Proofs.YtnffagpdnklnkaaGreatDoor.Pak
open Go.RowKit Go.Proofs.YtnffagpdnklnkaaGreatDoor Go.Proofs.YtnffagpdnklnkaaGreatDoor.Spl SiftM
set_option maxHeartbeats 2000000 in
theorem moveFinish (w : World) (B Wd X n : Nat) (t : TSt) (a : Int) (la : Option Addr) (ll lc : Nat) (h : TI w B Wd X n t) (hn : n < 999990) :
    Calls Tryz.prog 17 #[.pointer (some ⟨Wd, 0, none⟩), .agg #[.int .i64 5, .int .i64 a, .slice la ll lc]] w fun e w' => MovePost B Wd X (n + 1) t w e w' := by
  obtain ⟨W0, hW0⟩ : ∃ W0, w.alloc (.cells #[.int .i64 5, .int .i64 a, .slice la ll lc] 61) = W0 := ⟨_, rfl⟩
  have k0 : Kp [] w W0 := by rw [← hW0]; exact (Kp.refl _ _).alloc _
  have hb0 : W0.heap[w.heap.size]? = some (.cells #[.int .i64 5, .int .i64 a, .slice la ll lc] 61 (0, 0)) := by rw [← hW0]; exact heap_alloc_new w _
  have m0 : W0.cell? ⟨w.heap.size, 0, none⟩ = some (.int .i64 5) := by simp [World.cell?, hb0]
  have hB0 : Below B w W0 := k0.below h.1.ix.low (by simp)
  have h0 := h.kp0 k0
  obtain ⟨c0, _, _, _, _⟩ := h0.1.lw.cells
  have hcall := finishT W0 B Wd X n t h0.1 h0.2.1 hn
  obtain ⟨b, hb⟩ : ∃ b, t.mo.isSome = b := ⟨_, rfl⟩
  rw [hb] at hcall
  have H0 := hide h0
  have HB := hide hb
  clear h h0 hb0 k0 hb
  go_enter Tryz.func17, Tryz.ntmps17
  go_wp2_with (simp only [hW0])
  refine hcall.mono ?_
  rintro e W2 ⟨rfl, k2, s', hT2, hK2⟩
  obtain ⟨d0, d1, d2, d3, d4⟩ := hT2.lw.cells
  simp only at d3
  rw [H0.out.2.2, HB.out] at d3
  obtain ⟨W3, hW3⟩ : ∃ W3, W2.setCell ⟨Wd, 3, none⟩ (.bool false) = W3 := ⟨_, rfl⟩
  have k3 : Kp [Wd] W2 W3 := by rw [← hW3]; exact kp_set _ _ _ _
  have hT3 := hT2.law k3 (.inl rfl) (by rw [← hW3]; exact hT2.lw.setOn false) hT2.vO
  have hfin : MovePost B Wd X (n + 1) t w (.returned (.bool true)) W3 := ⟨rfl, (hB0.trans (k2.below H0.out.1.ix.low H0.out.1.OB.1)).trans (k3.below hT2.ix.low (by simpa using hT2.lB.1)), _, ⟨hT3, hK2, rfl⟩, rfl, rfl⟩
  have HF := hide hfin
  clear hcall hfin hT3 hT2 hK2
  cases b
  all_goals
    go_wp2_with (simp only [hW3])
    go_ret
    exact HF.out
set_option maxHeartbeats 2000000 in
theorem moveAbandon (w : World) (B Wd X n : Nat) (t : TSt) (a : Int) (la : Option Addr) (ll lc : Nat) (h : TI w B Wd X n t) :
    Calls Tryz.prog 17 #[.pointer (some ⟨Wd, 0, none⟩), .agg #[.int .i64 6, .int .i64 a, .slice la ll lc]] w fun e w' => MovePost B Wd X (n + 1) t w e w' := by
  obtain ⟨W0, hW0⟩ : ∃ W0, w.alloc (.cells #[.int .i64 6, .int .i64 a, .slice la ll lc] 61) = W0 := ⟨_, rfl⟩
  have k0 : Kp [] w W0 := by rw [← hW0]; exact (Kp.refl _ _).alloc _
  have hb0 : W0.heap[w.heap.size]? = some (.cells #[.int .i64 6, .int .i64 a, .slice la ll lc] 61 (0, 0)) := by rw [← hW0]; exact heap_alloc_new w _
  have m0 : W0.cell? ⟨w.heap.size, 0, none⟩ = some (.int .i64 6) := by simp [World.cell?, hb0]
  have hB0 : Below B w W0 := k0.below h.1.ix.low (by simp)
  have h0 := h.kp0 k0
  obtain ⟨c0, _, _, _, _⟩ := h0.1.lw.cells
  have hcall := abandonT W0 B Wd X n t h0.1
  obtain ⟨b, hb⟩ : ∃ b, t.mo.isSome = b := ⟨_, rfl⟩
  rw [hb] at hcall
  have H0 := hide h0
  have HB := hide hb
  clear h h0 hb0 k0 hb
  go_enter Tryz.func17, Tryz.ntmps17
  go_wp2_with (simp only [hW0])
  refine hcall.mono ?_
  rintro e W2 ⟨rfl, k2, hT2⟩
  obtain ⟨d0, d1, d2, d3, d4⟩ := hT2.lw.cells
  simp only at d3
  rw [H0.out.2.2, HB.out] at d3
  obtain ⟨W3, hW3⟩ : ∃ W3, W2.setCell ⟨Wd, 3, none⟩ (.bool false) = W3 := ⟨_, rfl⟩
  have k3 : Kp [Wd] W2 W3 := by rw [← hW3]; exact kp_set _ _ _ _
  have hT3 := hT2.law k3 (.inl rfl) (by rw [← hW3]; exact hT2.lw.setOn false) hT2.vO
  have hfin : MovePost B Wd X (n + 1) t w (.returned (.bool true)) W3 := ⟨rfl, (hB0.trans (k2.below H0.out.1.ix.low (by simpa using H0.out.1.OB.1 X H0.out.1.ix.inX))).trans (k3.below hT2.ix.low (by simpa using hT2.lB.1)), _, ⟨hT3.mono (Nat.le_succ _), H0.out.2.1, rfl⟩, rfl, rfl⟩
  have HF := hide hfin
  clear hcall hfin hT3 hT2
  cases b
  all_goals
    go_wp2_with (simp only [hW3])
    go_ret
    exact HF.out
set_option maxHeartbeats 2000000 in
theorem moveNone (w : World) (B Wd X n : Nat) (t : TSt) (kd a : Int) (la : Option Addr) (ll lc : Nat) (h : TI w B Wd X n t) (h1 : kd ≠ 1) (h2 : kd ≠ 2) (h3 : kd ≠ 3) (h4 : kd ≠ 4) (h5 : kd ≠ 5) (h6 : kd ≠ 6) (h7 : kd ≠ 7) :
    Calls Tryz.prog 17 #[.pointer (some ⟨Wd, 0, none⟩), .agg #[.int .i64 kd, .int .i64 a, .slice la ll lc]] w fun e w' => MovePost B Wd X (n + 1) t w e w' := by
  obtain ⟨W0, hW0⟩ : ∃ W0, w.alloc (.cells #[.int .i64 kd, .int .i64 a, .slice la ll lc] 61) = W0 := ⟨_, rfl⟩
  have k0 : Kp [] w W0 := by rw [← hW0]; exact (Kp.refl _ _).alloc _
  have hb0 : W0.heap[w.heap.size]? = some (.cells #[.int .i64 kd, .int .i64 a, .slice la ll lc] 61 (0, 0)) := by rw [← hW0]; exact heap_alloc_new w _
  have m0 : W0.cell? ⟨w.heap.size, 0, none⟩ = some (.int .i64 kd) := by simp [World.cell?, hb0]
  have hB0 : Below B w W0 := k0.below h.1.ix.low (by simp)
  have h0 := h.kp0 k0
  have hfin : MovePost B Wd X (n + 1) t w (.returned (.bool true)) W0 := ⟨rfl, hB0, t, ⟨h0.1.mono (Nat.le_succ _), h0.2⟩, rfl, rfl⟩
  have HF := hide hfin
  clear h h0 hb0 k0 hfin
  go_enter Tryz.func17, Tryz.ntmps17
  go_wp2_with (simp only [hW0])
  go_ret
  exact HF.out
/-- A move that is no commit. -/
theorem move_any (w : World) (B Wd X n : Nat) (t : TSt) (kd a : Int) (la : Option Addr) (ll lc : Nat) (zs : List Int) (h : TI w B Wd X n t) (hr : Mad.Row w la ll lc zs) (a1 : -9223372036854775808 ≤ a) (a2 : a ≤ 9223372036854775807) (hn : n < 999990) (hk : kd ≠ 7) :
    Calls Tryz.prog 17 #[.pointer (some ⟨Wd, 0, none⟩), .agg #[.int .i64 kd, .int .i64 a, .slice la ll lc]] w fun e w' => MovePost B Wd X (n + 1) t w e w' := by
  by_cases h12 : kd = 1 ∨ kd = 2
  · exact moveText w B Wd X n t kd a la ll lc zs h hr a1 a2 hn h12
  by_cases h3 : kd = 3
  · subst h3; exact moveFlush w B Wd X n t a la ll lc h hn
  by_cases h4 : kd = 4
  · subst h4; exact moveStart w B Wd X n t a la ll lc h hn
  by_cases h5 : kd = 5
  · subst h5; exact moveFinish w B Wd X n t a la ll lc h hn
  by_cases h6 : kd = 6
  · subst h6; exact moveAbandon w B Wd X n t a la ll lc h
  exact moveNone w B Wd X n t kd a la ll lc h (fun e => h12 (.inl e)) (fun e => h12 (.inr e)) h3 h4 h5 h6 hk
/-- A list of moves, as it lies in memory. -/
def MovAt (w : World) (B b off i : Nat) : Prop := ∃ (kd a : Int) (la : Option Addr) (ll lc : Nat) (zs : List Int), w.cell? ⟨b, off + i * 3, none⟩ = some (.int .i64 kd) ∧ w.cell? ⟨b, off + i * 3 + 1, none⟩ = some (.int .i64 a) ∧ w.cell? ⟨b, off + i * 3 + 2, none⟩ = some (.slice la ll lc) ∧
  (-9223372036854775808 ≤ a ∧ a ≤ 9223372036854775807) ∧ Mad.Row w la ll lc zs ∧ ∀ x, la = some x → 0 < lc → x.block < B
theorem row_below0 {w w' : World} {B : Nat} {a : Option Addr} {len cap : Nat} {zs : List Int} (h : Mad.Row w a len cap zs) (k : Below B w w') (ha : ∀ x, a = some x → 0 < cap → x.block < B) : Mad.Row w' a len cap zs := by
  rcases h with h | ⟨x, e, h1, h2, h3, h4, h5⟩
  · exact .inl h
  · refine .inr ⟨x, e, h1, h2, h3, fun i hi => ?_, h5⟩
    have hx : (x.add i).block = x.block := by unfold Addr.add; split <;> rfl
    exact (k.cell (p := x.add i) (by rw [hx]; exact ha x e (by omega))).trans (h4 i hi)
def MovesAt (w : World) (B : Nat) (a0 : Option Addr) (len : Nat) : Prop := len = 0 ∨ ∃ b off, a0 = some ⟨b, off, none⟩ ∧ b < B ∧ ∀ i, i < len → MovAt w B b off i
theorem MovAt.below {w w' : World} {B b off i : Nat} (h : MovAt w B b off i) (k : Below B w w') (hb : b < B) : MovAt w' B b off i := by
  obtain ⟨kd, a, la, ll, lc, zs, h1, h2, h3, h4, h5, h6⟩ := h
  exact ⟨kd, a, la, ll, lc, zs, (k.cell (p := ⟨b, _, none⟩) hb).trans h1, (k.cell (p := ⟨b, _, none⟩) hb).trans h2, (k.cell (p := ⟨b, _, none⟩) hb).trans h3, h4, row_below0 h5 k h6, h6⟩
theorem MovesAt.below {w w' : World} {B len : Nat} {a0 : Option Addr} (h : MovesAt w B a0 len) (k : Below B w w') : MovesAt w' B a0 len := by
  rcases h with h | ⟨b, off, h1, h2, h3⟩
  · exact .inl h
  · exact .inr ⟨b, off, h1, h2, fun i hi => (h3 i hi).below k h2⟩
set_option maxHeartbeats 2000000 in
theorem moves_any (w : World) (B Wd X n len cap : Nat) (a0 : Option Addr) (t : TSt) (h : TI w B Wd X n t) (hm : MovesAt w B a0 len) (hn : n + len < 999990) :
    Calls Tryz.prog 5 #[.pointer (some ⟨Wd, 0, none⟩), .slice a0 len cap] w fun e w' => MovePost B Wd X (n + len) t w e w' := by
  have H := hide h
  have HM := hide hm
  clear h hm
  go_enter Tryz.func5, Tryz.ntmps5
  go_wp2_with fail
  go_loopw [5] (fun iv wr => ∃ i : Nat, i ≤ len ∧ iv = .int .i64 (i : Int) ∧ Hid (Below B w wr) ∧ Hid (∃ t', TI wr B Wd X (n + i) t' ∧ t'.lst = t.lst ∧ t'.F = t.F)) (fun iv _ => len - (intOf iv).toNat)
  case atStart => exact ⟨0, by omega, rfl, Below.refl _ _, ⟨t, H.out, rfl, rfl⟩⟩
  case round =>
    obtain ⟨i, hi, rfl, hB, hT⟩ := hrel
    by_cases hlt : i < len
    · rcases HM.out with h0 | ⟨b, off, rfl, hb, hall⟩
      · omega
      obtain ⟨kd, a, la, ll, lc, zs, c0, c1, c2, hra, hrow, hla⟩ := (hall i hlt).below hB.out hb
      have j1 : (0 : Int) ≤ (i : Int) := by omega
      have j2 : (i : Int) < (len : Int) := by omega
      clear hall
      obtain ⟨t', hT', hl', hF'⟩ := hT.out
      by_cases hk : kd = 7
      · subst hk
        have HT7 : Hid (∃ t', TI wr B Wd X (n + (i + 1)) t' ∧ t'.lst = t.lst ∧ t'.F = t.F) := ⟨t', ⟨hT'.1.mono (by omega), hT'.2⟩, hl', hF'⟩
        clear hT' hrow hl' hF'
        go_wp2_with fail
        go_roundw
        case measure => simp [intOf]; omega
        case rel => exact ⟨i + 1, by omega, by go_num, hB, HT7⟩
      · have hcall := move_any wr B Wd X (n + i) t' kd a la ll lc zs hT' hrow hra.1 hra.2 (by omega) hk
        have HLF := hide (And.intro hl' hF')
        clear hT' hrow hl' hF'
        go_wp2_with fail
        refine hcall.mono ?_
        rintro e w' ⟨rfl, hB', t9, hT9, hl9, hF9⟩
        have HLF9 := hide (And.intro (hl9.trans HLF.out.1) (hF9.trans HLF.out.2))
        clear hl9 hF9
        clear hcall
        go_wp2_with fail
        go_roundw
        case measure => simp [intOf]; omega
        case rel => exact ⟨i + 1, by omega, by go_num, hB.out.trans hB', ⟨t9, hT9, HLF9.out⟩⟩
    · have hin : i = len := by omega
      subst hin
      have hltz : ¬ (i : Int) < (i : Int) := by omega
      go_wp2_with fail
      go_ret
      exact ⟨rfl, hB.out, hT.out⟩
end Go.Proofs.YtnffagpdnklnkaaGreatDoor.Pak
namespace Go.Proofs.YtnffagpdnklnkaaGreatDoor
open Go.ChangeShapes Go.WideShapes Go.ChangeAt Go.RowKit Go.Deep
theorem addr_plainT (b off k : Nat) : (⟨b, off, none⟩ : Addr).add k = ⟨b, off + k, none⟩ := by unfold Addr.add; split <;> simp_all
theorem threeL {α : Type} {l : List α} (h : l.length = 3) : ∃ a b c, l = [a, b, c] := by
  match l, h with
  | [a, b, c], _ => exact ⟨a, b, c, rfl⟩
theorem int_rangeT {a : Int} (h : (Lit.int .i64 a).wf = true) : -9223372036854775808 ≤ a ∧ a ≤ 9223372036854775807 := by
  simpa [Lit.wf, IntKind.min, IntKind.max, IntKind.signed, IntKind.bits] using h
theorem cells61T : Tryz.prog.cellsOf 61 = 3 := by kernel_rfl
theorem cells3T : Tryz.prog.cellsOf 3 = 1 := by kernel_rfl
theorem cells59T : Tryz.prog.cellsOf 59 = 1 := by kernel_rfl
/-- One move, out of its reading. -/
theorem mov_openT {H : Type} {enc : TypeId × Value → H} {W : World} {n : Nat} {cs : List Value} {x : DataW H × List MemPlace} (h : DataW.trod enc Tryz.prog W 0 (fun _ => true) true n 61 cs = some x) :
    ∃ (kd a : Int) (la : Option Addr) (ll lc : Nat) (zs : List Int), cs = [.int .i64 kd, .int .i64 a, .slice la ll lc] ∧ (-9223372036854775808 ≤ a ∧ a ≤ 9223372036854775807) ∧ Mad.Row W la ll lc zs ∧ ∃ ps, x.1 = .agg ps ∧ ps.length = 3 := by
  obtain ⟨xs, m, rfl, hx, hl, hxs, hf⟩ := DataW.trod_struct Tryz.underlying61 h
  rw [cells61T] at hl
  obtain ⟨c0, c1, c2, rfl⟩ := threeL hl
  have hxl : xs.length = 3 := hxs
  have g0 : DataW.trod enc Tryz.prog W 0 (fun _ => true) true m 3 (([c0, c1, c2].drop 0).take (Tryz.prog.cellsOf 3)) = xs[0]? := hf 0 _ rfl
  rw [cells3T] at g0
  have g1 : DataW.trod enc Tryz.prog W 0 (fun _ => true) true m 3 (([c0, c1, c2].drop 1).take (Tryz.prog.cellsOf 3)) = xs[1]? := hf 1 _ rfl
  rw [cells3T] at g1
  have g2 : DataW.trod enc Tryz.prog W 0 (fun _ => true) true m 59 (([c0, c1, c2].drop 2).take (Tryz.prog.cellsOf 59)) = xs[2]? := hf 2 _ rfl
  rw [cells59T] at g2
  rw [List.getElem?_eq_getElem (by omega)] at g0 g1 g2
  obtain ⟨k, e0, _, _⟩ := DataW.trod_int Tryz.underlying3 g0
  obtain ⟨a, e1, _, hwa⟩ := DataW.trod_int Tryz.underlying3 g1
  simp at e0 e1
  subst e0 e1
  rcases open_ints Tryz.underlying59 Tryz.underlying3 (by kernel_rfl) g2 with ⟨hcs, _⟩ | ⟨x', l', c', zs, hcs, _, hl', hm', hz, _, hcell, hwz⟩
  · have e2 : c2 = .slice none 0 0 := by simpa using hcs
    subst e2
    exact ⟨k, a, none, 0, 0, [], rfl, int_rangeT hwa, .inl ⟨rfl, rfl, rfl, rfl⟩, xs.map (·.1), by rw [hx], by simp [hxl]⟩
  · have e2 : c2 = .slice (some x') l' c' := by simpa using hcs
    subst e2
    exact ⟨k, a, some x', l', c', zs, rfl, int_rangeT hwa, .inr ⟨_, rfl, hl', hm', by simpa using hz, hcell, hwz⟩, xs.map (·.1), by rw [hx], by simp [hxl]⟩
theorem row_lt {W : World} {la : Option Addr} {ll lc : Nat} {zs : List Int} (h : Mad.Row W la ll lc zs) : ∀ x, la = some x → 0 < lc → x.block < W.heap.size := by
  intro x e h0
  rcases h with ⟨e', _⟩ | ⟨y, e', _, _, hz, hc, _⟩
  · rw [e] at e'; cases e'
  · rw [e] at e'
    cases e'
    have := Mad.cell_lt (hc 0 (by omega))
    have hx : (x.add 0).block = x.block := by unfold Addr.add; split <;> rfl
    rwa [hx] at this
/-- WHAT THE ARGUMENT GIVES: a list of moves that is empty, or lies in memory move by move, and what its reading tells. -/
theorem moves_openT {H : Type} {enc : TypeId × Value → H} {W : World} {a0 : Option Addr} {len0 cap0 : Nat} {d0 : DataW H} {p0 : List MemPlace} (h : DataW.Trod enc Tryz.prog W 0 (fun _ => true) true 22 (.slice a0 len0 cap0) d0 p0) :
    Pak.MovesAt W W.heap.size a0 len0 ∧ (len0 = 0 ∨ ∃ elems sp, d0 = .slice elems sp ∧ elems.length = len0 ∧ ∀ e ∈ elems, ∃ ps, e = .agg ps ∧ ps.length = 3) := by
  obtain ⟨fuel, hf⟩ := h
  rcases Deep.open_slice Tryz.underlying22 hf with ⟨hcs, _⟩ | ⟨x, l, c, m, n, D, Pl, hcs, _, hl, hm, hmm, hx, hel⟩
  · simp [Value.cells] at hcs
    exact ⟨.inl hcs.2.1, .inl hcs.2.1⟩
  · simp [Value.cells] at hcs
    obtain ⟨rfl, rfl, rfl⟩ := hcs
    simp only [if_true] at hmm
    subst hmm
    rw [cells61T] at hel
    by_cases h0 : len0 = 0
    · exact ⟨.inl h0, .inl h0⟩
    obtain ⟨b, off, spot⟩ := x
    have key : ∀ i, i < len0 → ∃ (kd a : Int) (la : Option Addr) (ll lc : Nat) (zs : List Int), W.cells? 0 ((⟨b, off, spot⟩ : Addr).add (i * 3)) 3 = some [.int .i64 kd, .int .i64 a, .slice la ll lc] ∧ (-9223372036854775808 ≤ a ∧ a ≤ 9223372036854775807) ∧ Mad.Row W la ll lc zs ∧ ∃ ps, D i = .agg ps ∧ ps.length = 3 := by
      intro i hi
      obtain ⟨cs, h1, h2⟩ := hel i (by omega)
      obtain ⟨kd, a, la, ll, lc, zs, rfl, h3, h4, h5⟩ := mov_openT h2
      exact ⟨kd, a, la, ll, lc, zs, h1, h3, h4, h5⟩
    obtain ⟨kd, a, la, ll, lc, zs, hc, _⟩ := key 0 (by omega)
    have hb := World.cells?_block hc (by omega)
    have h00 := (World.cells?_some hc).2.2 0 (by omega)
    have hspot : spot = none := by simpa [Addr.add] using World.cell?_spot h00
    subst hspot
    simp only [Prod.mk.injEq] at hx
    refine ⟨.inr ⟨b, off, rfl, by simpa [Addr.add] using hb, fun i hi => ?_⟩, .inr ⟨_, _, hx.1, by simp, fun e he => ?_⟩⟩
    · obtain ⟨kd, a, la, ll, lc, zs, hc, h3, h4, h5⟩ := key i hi
      have hall := (World.cells?_some hc).2.2
      have hadd : ∀ j, ((⟨b, off, none⟩ : Addr).add (i * 3)).add j = ⟨b, off + i * 3 + j, none⟩ := by
        intro j
        rw [addr_plainT, addr_plainT]
      have q0 := hall 0 (by omega)
      have q1 := hall 1 (by omega)
      have q2 := hall 2 (by omega)
      rw [hadd] at q0 q1 q2
      exact ⟨kd, a, la, ll, lc, zs, q0, q1, q2, h3, h4, row_lt h4⟩
    · obtain ⟨i, hi, rfl⟩ := List.mem_iff_getElem.1 he
      have hi' : i < len0 := by simpa using hi
      obtain ⟨_, _, _, _, _, _, _, _, _, ps, h5, h6⟩ := key i hi'
      exact ⟨ps, by simpa using h5, h6⟩
end Go.Proofs.YtnffagpdnklnkaaGreatDoor
namespace Go.Proofs.YtnffagpdnklnkaaGreatDoor.Pak
open Go.RowKit Go.Proofs.YtnffagpdnklnkaaGreatDoor Go.Proofs.YtnffagpdnklnkaaGreatDoor.Spl SiftM
theorem nd_sub {α : Type} [DecidableEq α] : ∀ (l m : List α), l.Nodup → (∀ x ∈ l, x ∈ m) → l.length ≤ m.length
  | [], _, _, _ => Nat.zero_le _
  | x :: r, m, hnd, h => by
    obtain ⟨hx, hr⟩ := List.nodup_cons.1 hnd
    have hxm := h x (by simp)
    have h1 := nd_sub r (m.erase x) hr (fun y hy => by
      have hne : y ≠ x := fun e => hx (e ▸ hy)
      exact (List.mem_erase_of_ne hne).2 (h y (List.mem_cons_of_mem _ hy)))
    rw [List.length_erase_of_mem hxm] at h1
    have : 0 < m.length := List.length_pos_of_mem hxm
    simp
    omega
theorem DOk.dsk {A : Dk} {last : Nat} {s : PSt} (h : DOk A last s.abs) : DskOk A last s.next s.Ps :=
  ⟨h.names, fun t ht p hp => h.files t.abs (List.mem_map.2 ⟨t, ht, rfl⟩) p hp⟩
theorem DOk.nums {A : Dk} {last : Nat} {s : PSt} (h : DOk A last s.abs) : (s.Ps.map PPt.num).Nodup := by
  have := h.nd
  rw [show s.abs.L.map DSg.num = s.Ps.map PPt.num by simp [PSt.abs, PPt.abs, Function.comp_def]] at this
  exact this
/-- Behind a commit. -/
theorem DOk.after {A : Dk} {last : Nat} {s : PSt} (h : DOk A last s.abs) (k nx : Nat) (hk : 0 < k) : DOk (dskOf k nx s.Ps) k s.abs := by
  have hnd := h.nums
  refine ⟨h.lt, h.nd, fun g hg p hp => ?_, fun x hx => ?_, h.small⟩
  · obtain ⟨t, ht, rfl⟩ := List.mem_map.1 hg
    unfold dskOf at hp
    rw [if_neg (seg_com _ _)] at hp
    cases hf : s.Ps.find? (fun u => decide (segN u.num = segN t.abs.num)) with
    | none => rw [hf] at hp; cases hp
    | some u =>
      rw [hf] at hp
      simp only [Option.map_some, Option.some.injEq] at hp
      have h1 := List.find?_some hf
      have h2 := List.mem_of_find?_eq_some hf
      simp only [decide_eq_true_eq] at h1
      have h3 : u.num = t.num := segN_inj h1
      obtain ⟨i, hi, rfl⟩ := List.mem_iff_getElem.1 h2
      obtain ⟨j, hj, rfl⟩ := List.mem_iff_getElem.1 ht
      have hij : i = j := by
        have := (List.getElem_inj (h₀ := by simpa using hi) (h₁ := by simpa using hj) hnd (i := i) (j := j)).1 (by simpa using h3)
        exact this
      subst hij
      rw [← hp]
      rfl
  · unfold dskOf at hx
    by_cases e : x = comN k
    · exact .inl ⟨e, hk⟩
    · rw [if_neg e] at hx
      right
      cases hf : s.Ps.find? (fun u => decide (segN u.num = x)) with
      | none => rw [hf] at hx; cases hx
      | some u =>
        have h1 := List.find?_some hf
        have h2 := List.mem_of_find?_eq_some hf
        simp only [decide_eq_true_eq] at h1
        exact ⟨u.num, h1.symm, h.lt u.abs (List.mem_map.2 ⟨u, h2, rfl⟩)⟩
theorem KOk.flush {th : List Bool} {wl : List (List (List UInt8))} {s s1 : PSt} (h : KOk th wl s.abs.all) (ha : s1.abs = s.abs.flush) : KOk th wl s1.abs.all := by
  rw [ha]; exact h.perm (flush_all _)
theorem files_few {F : List Fl} {k nx : Nat} {Ps : List PPt} (hnd : (nms F).Nodup) (h : absF F = dskOf k nx Ps) : F.length ≤ 1 + Ps.length := by
  have h1 := nd_sub (nms F) (comN k :: Ps.map fun t => segN t.num) hnd (fun x hx => by
    have h2 := (absF_is (F := F) x).2 hx
    rw [h] at h2
    unfold dskOf at h2
    by_cases e : x = comN k
    · simp [e]
    · rw [if_neg e] at h2
      cases hf : Ps.find? (fun u => decide (segN u.num = x)) with
      | none => rw [hf] at h2; cases h2
      | some u =>
        have h3 := List.find?_some hf
        have h4 := List.mem_of_find?_eq_some hf
        simp only [decide_eq_true_eq] at h3
        exact List.mem_cons_of_mem _ (List.mem_map.2 ⟨u, h4, h3⟩))
  simp [nms] at h1
  omega
/-- Commit. -/
theorem commitT (w : World) (B Wd X n : Nat) (t : TSt) (h : TI w B Wd X n t) (hn : n < 999990) (hl : t.lst ≤ 10) (hF : t.F.length ≤ 2000000) :
    Calls Tryz.prog 6 #[.pointer (some ⟨X, 0, none⟩)] w fun e w' => e = .returned (.int .i64 0) ∧ Below B w w' ∧ ∃ t' nx, TI w' B Wd X (n + 1) t' ∧ t'.lst = t.lst + 1 ∧ t'.F.length ≤ 1000000 ∧ absF t'.F = dskOf (t.lst + 1) nx t'.s.Ps ∧ t'.s.G = [] := by
  obtain ⟨h, hk, hon⟩ := h
  rw [← h.lstE] at hl
  have hnx := h.nx
  have hnd : (nms t.F).Nodup := by obtain ⟨D, _, _, _, _, h9, _⟩ := h.disk.map; exact h9
  have hgo : ∀ s1 : PSt, s1.abs = t.s.abs.flush → ((toldN (t.s.last + 1) s1.Ps).Nodup ∧ Goes (absF t.F) s1.Ps (stepsL t.F (t.s.last + 1) s1.next s1.Ps)) ∧ lastAll t.s.last (stepsL t.F (t.s.last + 1) s1.next s1.Ps) = t.s.last + 1 ∧ runAll (absF t.F) (stepsL t.F (t.s.last + 1) s1.next s1.Ps) = dskOf (t.s.last + 1) s1.next s1.Ps ∧ s1.next ≤ n + 1 ∧ s1.Ps.length ≤ n + 2 := fun s1 ha => by
    have hd : DOk (absF t.F) t.s.last s1.abs := by rw [ha]; exact h.dok.flush
    have hn1 : s1.next ≤ n + 1 := by
      have h1 : s1.next = s1.abs.next := rfl
      rw [h1, ha]
      unfold DSt.flush
      split
      · exact Nat.le_trans hnx (Nat.le_succ _)
      · exact Nat.succ_le_succ hnx
    have hPl : s1.Ps.length ≤ n + 2 := by
      have h1 : s1.Ps.length = s1.abs.L.length := by simp [PSt.abs]
      have h2 : t.s.abs.L.length = t.s.Ps.length := by simp [PSt.abs]
      have h3 := h.ix.cnt
      rw [h1, ha]
      unfold DSt.flush
      split
      · omega
      · simp only [List.length_append, List.length_cons, List.length_nil]; omega
    obtain ⟨g1, g2, g3, g4⟩ := commit_goes t.F t.s.last s1.next s1.next s1.Ps hd.dsk hd.nums (by omega) (by omega) (by omega) hF hnd
    exact ⟨⟨g1, g2⟩, g3, g4, hn1, hPl⟩
  refine (commit_any X B t.d t.M t.O t.F t.s w h.ix h.fv h.disk h.MO h.dO h.FO h.disk.map.lt h.Olt h.tabP h.h0 h.tab h.h1 h.hB h.lit (by omega) (by omega) hF (fun s1 ha => (hgo s1 ha).1)).mono ?_
  rintro e w' ⟨rfl, s1, F', O1, ha, hr, hP, hD', hA, k, hO1, hF'⟩
  obtain ⟨_, g3, g4, g5, g6⟩ := hgo s1 ha
  rw [g3] at hP
  rw [g4] at hA
  obtain ⟨r1, r2, r3, r4, r5, r6, r7, r8, r9, r10⟩ := hr
  have hz := k.size
  obtain ⟨l1, l2, l3, l4⟩ := h.lw.lt
  have hMl := h.disk.map.lt
  have hdl := heap_lt h.disk.blk
  have h1w : 1 < w.heap.size := Nat.lt_of_lt_of_le h.hB h.ix.low
  obtain ⟨es, ck, hmap⟩ := h.disk.map.block
  have hnot : ∀ g, g ∉ t.O → g < w.heap.size → g ∉ O1 := fun g h1 h2 hx => by
    rcases hO1 g hx with h9 | h9
    · exact h1 h9
    · omega
  have hMO : ∀ g cs ty, w.heap[g]? = some (.cells cs ty (0, 0)) → g ∉ t.O → g ∉ t.M :: t.O := fun g cs ty hg hgO hx => by
    rcases List.mem_cons.1 hx with e | e
    · rw [e, hmap] at hg; cases hg
    · exact hgO e
  have hMr : ∀ (b sz m : Nat) (ty : TypeId) (v : Value) (xs : List Value), w.ownsRow b ty sz v m xs → (∀ g, v.ownBlock = some g → g ∉ t.O) → ∀ g, v.ownBlock = some g → g ∉ t.M :: t.O := fun b sz m ty v xs ho hv g hg => by
    obtain ⟨cs, hc⟩ := owns_typed ho hg
    exact hMO g cs ty hc (hv g hg)
  have hM0 : ∀ g, g < 2 → g ∉ t.O → g ∉ t.M :: t.O := fun g h2 hg hx => by
    rcases List.mem_cons.1 hx with e | e
    · have := h.OB.2; have := h.hB; omega
    · exact hg e
  have hd1 : DOk (absF t.F) t.s.last s1.abs := by rw [ha]; exact h.dok.flush
  have hG : s1.G = [] := by
    have h1 : s1.G = s1.abs.T := rfl
    rw [h1, ha]
    unfold DSt.flush
    split
    · assumption
    · rfl
  obtain ⟨Qs', hQs⟩ : ∃ Qs', ∀ m, t.mo = some m → MoOk w' { t with s := { s1 with last := t.s.last + 1 }, O := O1, F := F', Qs := Qs', lst := t.lst + 1 } m := by
    cases hm : t.mo with
    | none => exact ⟨t.Qs, fun m e => by cases e⟩
    | some m =>
      have hM := h.mrg m hm
      obtain ⟨Qs', q1, q2⟩ := hM.stk.kept r10
      have ql : Qs'.length = t.Qs.length := by have := congrArg List.length q2; simpa using this
      refine ⟨Qs', fun m' e => ?_⟩
      cases e
      refine ⟨k.heap hM.blk (hMO _ _ _ hM.blk hM.mO), ?_, q1, ?_, ?_, hnot _ hM.mO (heap_lt hM.blk), fun g hg => hnot g (hM.sO g hg) (hM.row.lt g hg).2⟩
      · simp only
        rw [q2, ql]
        exact k.owns hM.row (hMr _ _ _ _ _ _ hM.row hM.sO)
      · intro e
        simp only at e
        exact hM.ne (List.length_eq_zero_iff.1 (by rw [← ql, e]; rfl))
      · simp only
        rw [ql]; exact hM.few
  have hnd' : (nms F').Nodup := by obtain ⟨D, _, _, _, _, h9, _⟩ := hD'.map; exact h9
  have hfew := files_few hnd' hA
  have hlw : LW w' B Wd X t.tb t.wb t.on t.th t.vs t.wl := h.lw.kp k ⟨hMO _ _ _ h.lw.blk h.lO.1, hMO _ _ _ h.lw.thb h.lO.2.1, hMO _ _ _ h.lw.wob h.lO.2.2⟩ (fun v hv g hg => by
    obtain ⟨i, hi, e⟩ := List.mem_iff_getElem.1 hv
    have hi' : i < t.wl.length := by rw [h.lw.wll, ← h.lw.vl]; exact hi
    exact hMr _ _ _ _ _ _ (h.lw.each i v t.wl[i] (by rw [List.getElem?_eq_getElem hi, e]) (List.getElem?_eq_getElem hi')) (h.vO v hv) g hg)
  have hTW : TW w' B Wd X (n + 1) { t with s := { s1 with last := t.s.last + 1 }, O := O1, F := F', Qs := Qs', lst := t.lst + 1 } := by
    refine ⟨hP, r3.trans h.fv, hD', hnot _ h.MO hMl, hnot _ h.dO hdl, hF', ?_, ?_, h.tabP.kp k (hM0 0 (by omega) h.h0), h.tab.kp k (hM0 1 (by omega) h.h1), hnot _ h.h0 (by omega), hnot _ h.h1 h1w, h.hB, r5.trans h.lit, hlw, h.lB, ⟨hnot _ h.lO.1 l1, hnot _ h.lO.2.1 l2, hnot _ h.lO.2.2 l3⟩, fun v hv g hg => hnot g (h.vO v hv g hg) (l4 v hv g hg), r7.trans h.mv, hQs, ?_, ?_, ?_, g5, congrArg (· + 1) h.lstE⟩
    · intro g hg
      rcases hO1 g hg with h9 | h9
      · exact Nat.lt_of_lt_of_le (h.Olt g h9) hz
      · exact h9.2
    · refine ⟨fun g hg => ?_, h.OB.2⟩
      rcases hO1 g hg with h9 | h9
      · exact h.OB.1 g h9
      · exact Nat.le_trans h.ix.low h9.1
    · simp only
      rw [hA]
      exact (hd1.after (t.s.last + 1) s1.next (by omega)).same _ rfl rfl rfl
    · simp only
      rw [hG, r1]
      exact ⟨h.buf.1, h.buf.2.1, by have := h.buf.1; simp; omega⟩
    · simp only
      rw [r2]; exact h.fac
  refine ⟨rfl, k.below h.ix.low (fun x hx => ?_), _, s1.next, ⟨hTW, hk.flush ha, hon⟩, rfl, by simp only; omega, by rw [← h.lstE]; exact hA, hG⟩
  rcases List.mem_cons.1 hx with rfl | hx
  · exact h.OB.2
  · exact h.OB.1 x hx
/-- The law's world, as it begins. -/
theorem beginT (bI fI : Int) (w : World) (hT : TabP w) (hT64 : Tab64 w) (hw : 1 < w.heap.size) (h1 : -9223372036854775808 ≤ bI) (h2 : bI ≤ 9223372036854775807) (h3 : -9223372036854775808 ≤ fI) (h4 : fI ≤ 9223372036854775807) :
    Calls Tryz.prog 4 #[.int .i64 bI, .int .i64 fI] w fun e w' => Kp [] w w' ∧ ∃ Wd X t, e = .returned (.tuple #[.pointer (some ⟨Wd, 0, none⟩), .bool true]) ∧ TI w' w.heap.size Wd X 0 t ∧ t.lst = 0 ∧ t.F = [] := by
  refine (begin_any bI fI w h1 h2 h3 h4).mono ?_
  rintro e w' ⟨Wd, X, tb, wb, W1, rfl, k1, k2, ⟨hb, d, M, bX, bh, bd, bM, hd, hM, hP, hD⟩, hL, hlo⟩
  have hl1 := pickG_lt bI 8 (by omega)
  have hl2 := pickG_lt fI 3 (by omega)
  have hz2 := k2.size
  have hz1 := k1.size
  refine ⟨k1.next k2, Wd, X, ⟨newP (1 + pickG bI 8) (2 + pickG fI 3) hb (pt d), [X, hb], [], d, M, none, false, .slice none 0 0, 0, [], tb, wb, List.replicate 20 false, List.replicate 20 (.slice none 0 0), List.replicate 20 [], 0⟩, rfl, ⟨?_, ?_, rfl⟩, rfl, rfl⟩
  · have hin : ∀ g ∈ [X, hb], w.heap.size ≤ g ∧ g < W1.heap.size := fun g hg => by
      simp at hg
      rcases hg with rfl | rfl
      · exact bX
      · exact bh
    have hno : ∀ g, W1.heap.size ≤ g → g ∉ [X, hb] := fun g hg hx => by have := (hin g hx).2; omega
    have hsm : ∀ g, g < w.heap.size → g ∉ [X, hb] := fun g hg hx => by have := (hin g hx).1; omega
    refine ⟨hP.kp k2 (by simp), rfl, hD.kp k2 (by simp) (by simp) (by simp), hM, hd, fun f hf => by simp at hf, fun g hg => Nat.lt_of_lt_of_le (hin g hg).2 hz2, ⟨fun g hg => (hin g hg).1, bM.1⟩, hT.kp (k1.next k2) (by simp), hT64.kp (k1.next k2) (by simp), hsm 0 (by omega), hsm 1 hw, hw, rfl, hL, ⟨show w.heap.size ≤ Wd by omega, show w.heap.size ≤ tb by omega, show w.heap.size ≤ wb by omega⟩, ⟨hno _ hlo.1, hno _ hlo.2.1, hno _ hlo.2.2⟩, fun v hv g hg => ?_, rfl, fun m hm => (by cases hm), ?_, ?_, ?_, Nat.le_refl _, rfl⟩
    · rw [List.eq_of_mem_replicate hv] at hg
      simp [Value.ownBlock] at hg
    · refine ⟨fun g hg => ?_, List.nodup_nil, fun g hg => ?_, fun x hx => ?_, fun x hx => (by cases hx), fun g hg => (by cases hg)⟩
      · cases hg
      · cases hg
      · cases hx
    · exact ⟨by simp [newP], by simp only [newP]; omega, by simp only [newP, List.length_nil]; omega⟩
    · exact ⟨by simp [newP], by simp only [newP]; omega⟩
  · refine ⟨fun x hx => ?_, fun i hi => ?_⟩
    · cases hx
    · have := List.eq_of_mem_replicate (List.mem_of_getElem? hi)
      cases this
end Go.Proofs.YtnffagpdnklnkaaGreatDoor.Pak
