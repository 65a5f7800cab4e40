import Derived.Test.YtpdoacfiiledcaaGreatDoorV46
import Derived.Test.YtpdoacfiiledcaaGreatDoorRows
import Derived.ProofKit
import Derived.OpenShut
import Derived.Deep.Slices
import Derived.ChangeOld
import Derived.Deep.SlicePairs
import Derived.SevenTiedAt
set_option linter.unusedVariables false
set_option linter.unusedSimpArgs false
set_option maxRecDepth 100000
namespace Go.Proofs.YtpdoacfiiledcaaGreatDoor.Pak
open Go.RowKit Go.Proofs.YtpdoacfiiledcaaGreatDoor Go.Proofs.YtpdoacfiiledcaaGreatDoor.Spl SiftM

/-- A step of the script, as it lies. -/
structure OpAtS (w : World) (b o : Nat) (k a b' c d : Int) (s : ByteArray) (la : Option Addr) (ln lc : Nat) (na : Option Addr) (nn nc : Nat) (fa : Option Addr) (fn fc : Nat) : Prop where
  at' : OpAt w b o k a b' c d s (.slice la ln lc) (.slice na nn nc) (.slice fa fn fc)
  ra : -9223372036854775808 ≤ a ∧ a ≤ 9223372036854775807
  small : s.size ≤ 140737488355328
def ScriptS (w : World) (b off len : Nat) : Prop := ∀ i, i < len → ∃ (k a b' c d : Int) (s : ByteArray) (la : Option Addr) (ln lc : Nat) (na : Option Addr) (nn nc : Nat) (fa : Option Addr) (fn fc : Nat), OpAtS w b (off + i * 9) k a b' c d s la ln lc na nn nc fa fn fc
def kindsG : List Int := [5, 6, 7, 9, 10, 11]
theorem step_any (kk : Int) (hkk : kk ∈ kindsG) (P B K : Nat) (a b c d : Int) (s : ByteArray) (la : Option Addr) (ln lc : Nat) (na : Option Addr) (nn nc : Nat) (fa : Option Addr) (fn fc : Nat) (w : World) (h : Nxt w P B K) (hK : K < 1000000) (PlB : B ≤ P) (hs : s.size ≤ 140737488355328) (ha : -9223372036854775808 ≤ a ∧ a ≤ 9223372036854775807) :
    Calls Tryz.prog 24 #[.pointer (some ⟨P, 0, none⟩), opA kk a b c d s (.slice la ln lc) (.slice na nn nc) (.slice fa fn fc)] w fun e w' => e = .returned (.bool true) ∧ Nxt w' P B (K + 1) ∧ Below B w w' := by
  simp only [kindsG, List.mem_cons, List.not_mem_nil, or_false] at hkk
  rcases hkk with rfl | rfl | rfl | rfl | rfl | rfl
  · exact step5 P B K a b c d s la ln lc na nn nc fa fn fc w h hK PlB
  · exact step6 P B K a b c d s la ln lc na nn nc fa fn fc w h hK PlB hs ha
  · exact step7 P B K a b c d s la ln lc na nn nc fa fn fc w h hK PlB hs ha
  · exact step9 P B K a b c d s la ln lc na nn nc fa fn fc w h hK PlB hs ha
  · exact step10 P B K a b c d s la ln lc na nn nc fa fn fc w h hK PlB hs ha
  · exact step11 P B K a b c d s la ln lc na nn nc fa fn fc w h hK PlB hs ha
def worldG : Obj := .cells #[.slice none 0 0, .slice none 0 0, .slice none 0 0, .slice none 0 0, .slice none 0 0, .slice none 0 0] 64
/-- The law's world at the start. -/
theorem nxt_new (w : World) (h0 : 0 < w.heap.size) (hT : Tab64 w) : Nxt (w.alloc worldG) w.heap.size w.heap.size 0 := by
  have k : Kp [] w (w.alloc worldG) := (Kp.refl _ _).alloc _
  refine ⟨fun _ => 0, .slice none 0 0, .slice none 0 0, [], [], heap_alloc_new w _, h0, by simp, World.ownsRow_nil _ _ _ _, fun i hi => by simp at hi, World.ownsRow_nil _ _ _ _, fun i x hx => by simp at hx, fun _ _ => rfl, rfl, fun _ _ => rfl, fun g hg => by simp [Value.ownBlock] at hg, fun x hx => by simp at hx, by simp, by simp, hT.kp k (by simp)⟩
theorem nxt_later {w w' : World} {P B K : Nat} (h : Nxt w P B K) (k : Kp [] w w') : Nxt w' P B K := by
  obtain ⟨c, psv, sv, Q, F, h⟩ := h
  exact ⟨c, psv, sv, Q, F, h.kp0 k⟩
theorem nxt_looks {w : World} {P B K : Nat} (h : Nxt w P B K) (hK : K ≤ 1000000) : Calls Tryz.prog 25 #[.pointer (some ⟨P, 1, none⟩)] w fun e w' => e = .returned (.bool true) ∧ Below w.heap.size w w' := by
  obtain ⟨c, psv, sv, Q, F, h⟩ := h
  exact looksG P B K c psv sv Q F w h hK

set_option maxHeartbeats 4000000 in
theorem playsG (b off len cap K : Nat) (w : World) (hlen : len ≤ 999990) (hS : ScriptS w b off len) (hb : b < w.heap.size) (hKs : ∀ j (h : j < 6), w.cell? ⟨K, j, none⟩ = some (.int .i64 (kindsG[j]'(by simpa [kindsG] using h)))) (hKb : K < w.heap.size) (hT : Tab64 w) :
    Calls Tryz.prog 13 #[.slice (some ⟨b, off, none⟩) len cap, .slice (some ⟨K, 0, none⟩) 6 6] w fun e w' => e = .returned (.bool true) ∧ Below w.heap.size w w' := by
  have hb0 : Below w.heap.size w (w.alloc worldG) := (Below.refl _ _).alloc (Nat.le_refl _) _
  have hn0 := hide (nxt_new w (by omega) hT)
  have hk0 := hKs 0 (by omega)
  simp only [kindsG, List.getElem_cons_zero] at hk0
  replace hS := hide hS
  have HKS := hide hKs
  clear hT hKs
  unfold worldG at hb0 hn0
  have hst := step5 w.heap.size w.heap.size 0 2 2 0 0 ⟨#[97]⟩ none 0 0 none 0 0 none 0 0 _ hn0.out (by omega) (Nat.le_refl _)
  unfold opA at hst
  go_enter Tryz.func13, Tryz.ntmps13
  go_wp2_with fail
  refine hst.mono ?_
  rintro e w1 ⟨rfl, hn1, hb1⟩
  have hw0 : Below w.heap.size w w1 := hb0.trans hb1
  have HN1 := hide hn1
  clear hb1 hb0 hn0 hn1 hst hk0
  go_wp2_with fail
  go_loopw [7] (fun i wr => ∃ (k : Nat), k ≤ len ∧ i = .int .i64 k ∧ Hid (Nxt wr w.heap.size w.heap.size (k + 1)) ∧ Below w.heap.size w wr) (fun i _ => len - (intOf i).toNat)
  case atStart => exact ⟨0, Nat.zero_le _, rfl, HN1, hw0⟩
  case round =>
    clear HN1 hw0
    obtain ⟨k, hk, rfl, hN, hw⟩ := hrel
    obtain ⟨V, rfl⟩ : ∃ V : World, V = wr := ⟨_, rfl⟩
    by_cases hlt : k < len
    · have h1 : (k : Int) < (len : Int) := by omega
      have h0 : (0 : Int) ≤ (k : Int) := by omega
      obtain ⟨kk, a, b', c, d, s, la, ln, lc, na, nn, nc, fa, fn, fc, hop⟩ := hS.out k hlt
      have HOP := hide hop
      have hcw : Hid (∀ w2, Below w.heap.size w w2 → OpAt w2 b (off + k * 9) kk a b' c d s (.slice la ln lc) (.slice na nn nc) (.slice fa fn fc)) := by
        intro w2 h2
        have := hop.at'
        unfold OpAt at this ⊢
        have hcl : ∀ o', w2.cell? ⟨b, o', none⟩ = w.cell? ⟨b, o', none⟩ := fun o' => h2.cell hb
        simp only [hcl]
        exact this
      clear hop
      go_wp2_with fail
      go_loopw [8, 9] (fun iv jv w2 => ∃ j : Nat, j ≤ 6 ∧ jv = .int .i64 (j : Int) ∧ iv = .bool (decide (kk ∈ kindsG.take j)) ∧ Kp [] V w2) (fun _ jv _ => 6 - (intOf jv).toNat)
      case atStart => exact ⟨0, by omega, rfl, by simp, Kp.refl _ _⟩
      case round =>
        obtain ⟨j, hj, rfl, rfl, kj⟩ := hrel
        have hbw : Below w.heap.size w wr := hw.trans (kj.below (Nat.le_refl _) (by simp) |>.mono hw.size)
        by_cases hj6 : j < 6
        · have hkc : wr.cell? ⟨K, j, none⟩ = some (.int .i64 (kindsG[j]'(by simpa [kindsG] using hj6))) := by rw [hbw.cell hKb]; exact HKS.out j hj6
          have hoc := (hcw.out wr hbw).1
          have htk : kindsG.take (j + 1) = kindsG.take j ++ [kindsG[j]'(by simpa [kindsG] using hj6)] := List.take_succ_eq_append_getElem (by simpa [kindsG] using hj6)
          obtain ⟨kv, hkv⟩ : ∃ kv, kindsG[j]'(by simpa [kindsG] using hj6) = kv := ⟨_, rfl⟩
          rw [hkv] at hkc htk
          have hst : decide (kk ∈ kindsG.take (j + 1)) = (decide (kk ∈ kindsG.take j) || (kk == kv)) := by
            rw [htk, Bool.eq_iff_iff]
            simp [List.mem_append]
          obtain ⟨bb, hbb⟩ : ∃ bb, decide (kk ∈ kindsG.take j) = bb := ⟨_, rfl⟩
          rw [hbb] at hst
          have HST := hide hst
          have j1 : (0 : Int) ≤ (j : Int) := by omega
          have j2 : (j : Int) < 6 := by omega
          have HKJ := hide kj
          rw [hbb]
          clear htk hkv hst hbb hcw hN hbw kj
          cases bb
          all_goals
            go_wp2_with fail
            go_quiet (fail)
            go_wp2_with fail
            refine ⟨⟨j + 1, by omega, by go_num, ?_, HKJ.out.next ((Kp.refl [] wr).drewN _)⟩, by simp [intOf]; omega⟩
            rw [HST.out]
            simp
        · have hj7 : j = 6 := by omega
          subst hj7
          have htake : kindsG.take 6 = kindsG := rfl
          rw [htake]
          by_cases hin : kk ∈ kindsG
          · have hd : decide (kk ∈ kindsG) = true := by simpa using hin
            rw [hd]
            obtain ⟨e0, e1, e2, e3, e4, e5, e6, e7, e8⟩ := hcw.out wr hbw
            have hstep := step_any kk hin w.heap.size w.heap.size (k + 1) a b' c d s la ln lc na nn nc fa fn fc wr (nxt_later hN.out kj) (by omega) (Nat.le_refl _) HOP.out.small HOP.out.ra
            unfold opA at hstep
            have HBW := hide hbw
            clear hcw hN hbw kj HOP hd
            go_wp2_with fail
            refine hstep.mono ?_
            rintro e w2 ⟨rfl, hn2, hb2⟩
            have HN2 := hide hn2
            have hlook := nxt_looks hn2 (by omega)
            have hw2 := HBW.out.trans hb2
            have HW2 := hide hw2
            clear hstep hn2 hb2 hw2 e0 e1 e2 e3 e4 e5 e6 e7 e8
            go_wp2_with fail
            refine hlook.mono ?_
            rintro e w3 ⟨rfl, hb3⟩
            have HB3 := hide hb3
            clear hlook hb3
            go_wp2_with fail
            exact ⟨⟨k + 1, by omega, by go_num, nxt_later HN2.out (Kp.of_below [] HB3.out), HW2.out.trans (HB3.out.mono HW2.out.size)⟩, by simp [intOf]; omega⟩
          · have hd : decide (kk ∈ kindsG) = false := by simpa using hin
            rw [hd]
            have HN2 := hide (nxt_later hN.out kj)
            have HBW := hide hbw
            clear hcw hN hbw kj HOP hd
            go_wp2_with fail
            refine ⟨⟨k + 1, by omega, by go_num, ?_, HBW.out⟩, by simp [intOf]; omega⟩
            obtain ⟨cc, psv, sv, Q, F, h9⟩ := HN2.out
            exact ⟨cc, psv, sv, Q, F, h9.up⟩
    · go_wp2_with fail
      go_ret
      exact ⟨rfl, hw⟩
end Go.Proofs.YtpdoacfiiledcaaGreatDoor.Pak

set_option linter.unusedVariables false
set_option linter.unusedSimpArgs false
set_option maxRecDepth 100000
namespace Go.Proofs.YtpdoacfiiledcaaGreatDoor.Pak
open Go.RowKit Go.Proofs.YtpdoacfiiledcaaGreatDoor Go.Proofs.YtpdoacfiiledcaaGreatDoor.Spl SiftM

theorem kinds_cells (w : World) : ∀ j (h : j < 6), (w.alloc (.cells #[.int .i64 5, .int .i64 6, .int .i64 7, .int .i64 9, .int .i64 10, .int .i64 11] 3)).cell? ⟨w.heap.size, j, none⟩ = some (.int .i64 (kindsG[j]'(by simpa [kindsG] using h))) := by
  intro j h
  rw [World.cell?_alloc_at _ _ _ _ rfl]
  match j, h with
  | 0, _ => rfl
  | 1, _ => rfl
  | 2, _ => rfl
  | 3, _ => rfl
  | 4, _ => rfl
  | 5, _ => rfl
theorem scriptS_alloc {w : World} {b off len : Nat} (o : Obj) (h : ScriptS w b off len) (hb : b < w.heap.size) : ScriptS (w.alloc o) b off len := by
  have hbl : Below w.heap.size w (w.alloc o) := (Below.refl _ _).alloc (Nat.le_refl _) _
  intro i hi
  obtain ⟨k, a, b', c, d, s, la, ln, lc, na, nn, nc, fa, fn, fc, h⟩ := h i hi
  refine ⟨k, a, b', c, d, s, la, ln, lc, na, nn, nc, fa, fn, fc, ?_, h.ra, h.small⟩
  have hat := h.at'
  unfold OpAt at hat ⊢
  have hcl : ∀ o', (w.alloc o).cell? ⟨b, o', none⟩ = w.cell? ⟨b, o', none⟩ := fun o' => hbl.cell hb
  simp only [hcl]
  exact hat
set_option maxHeartbeats 2000000 in
theorem playsG_zero (a : Option Addr) (cap K : Nat) (w : World) (hK0 : w.cell? ⟨K, 0, none⟩ = some (.int .i64 5)) (hKb : K < w.heap.size) (h0 : 0 < w.heap.size) (hT : Tab64 w) :
    Calls Tryz.prog 13 #[.slice a 0 cap, .slice (some ⟨K, 0, none⟩) 6 6] w fun e w' => e = .returned (.bool true) ∧ Below w.heap.size w w' := by
  have hb0 : Below w.heap.size w (w.alloc worldG) := (Below.refl _ _).alloc (Nat.le_refl _) _
  have hn0 := hide (nxt_new w h0 hT)
  clear hT
  unfold worldG at hb0 hn0
  have hst := step5 w.heap.size w.heap.size 0 2 2 0 0 ⟨#[97]⟩ none 0 0 none 0 0 none 0 0 _ hn0.out (by omega) (Nat.le_refl _)
  unfold opA at hst
  go_enter Tryz.func13, Tryz.ntmps13
  go_wp2_with fail
  refine hst.mono ?_
  rintro e w1 ⟨rfl, hn1, hb1⟩
  have hw0 : Below w.heap.size w w1 := hb0.trans hb1
  clear hb1 hb0 hn0 hn1 hst
  go_wp2_with fail
  refine wp_loop_rounds 1 ?_
  rw [rounds_succ]
  go_wp2_with fail
  go_ret
  exact ⟨rfl, hw0⟩
set_option maxHeartbeats 400000 in
theorem segmented_zero (a : Option Addr) (cap : Nat) (w : World) (h0 : 0 < w.heap.size) (hT : Tab64 w) :
    Calls Tryz.prog 7 #[.slice a 0 cap] w fun e w' => e = .returned (.bool true) ∧ Below w.heap.size w w' := by
  have k : Kp [] w (w.alloc (.cells #[.int .i64 5, .int .i64 6, .int .i64 7, .int .i64 9, .int .i64 10, .int .i64 11] 3)) := (Kp.refl _ _).alloc _
  have hp := playsG_zero a cap w.heap.size _ (by have := kinds_cells w 0 (by omega); exact this) (by simp) (by simp) (hT.kp k (by simp))
  clear hT
  go_enter Tryz.func7, Tryz.ntmps7
  go_wp2_with fail
  refine hp.mono ?_
  rintro e w1 ⟨rfl, hb⟩
  go_wp2_with fail
  go_ret
  exact ⟨rfl, ((Below.refl _ _).alloc (Nat.le_refl _) _).trans (hb.mono (by simp))⟩
set_option maxHeartbeats 400000 in
theorem segmented_any (b off len cap : Nat) (w : World) (hlen : len ≤ 999990) (hS : ScriptS w b off len) (hb : b < w.heap.size) (hT : Tab64 w) :
    Calls Tryz.prog 7 #[.slice (some ⟨b, off, none⟩) len cap] w fun e w' => e = .returned (.bool true) ∧ Below w.heap.size w w' := by
  have k : Kp [] w (w.alloc (.cells #[.int .i64 5, .int .i64 6, .int .i64 7, .int .i64 9, .int .i64 10, .int .i64 11] 3)) := (Kp.refl _ _).alloc _
  have hp := playsG b off len cap w.heap.size _ hlen (scriptS_alloc _ hS hb) (by simp; omega) (kinds_cells w) (by simp) (hT.kp k (by simp))
  clear hT hS
  go_enter Tryz.func7, Tryz.ntmps7
  go_wp2_with fail
  refine hp.mono ?_
  rintro e w1 ⟨rfl, hb1⟩
  go_wp2_with fail
  go_ret
  exact ⟨rfl, ((Below.refl _ _).alloc (Nat.le_refl _) _).trans (hb1.mono (by simp))⟩
end Go.Proofs.YtpdoacfiiledcaaGreatDoor.Pak

namespace Go.Proofs.YtpdoacfiiledcaaGreatDoor
open Go.ChangeShapes Go.WideShapes Go.ChangeAt Go.RowKit
set_option linter.unusedVariables false

theorem Tryz.cells69 : Tryz.prog.cellsOf 69 = 9 := by kernel_rfl
theorem Tryz.cells3 : Tryz.prog.cellsOf 3 = 1 := by kernel_rfl
theorem Tryz.cells9 : Tryz.prog.cellsOf 9 = 1 := by kernel_rfl
theorem Tryz.cells66 : Tryz.prog.cellsOf 66 = 1 := by kernel_rfl
theorem Tryz.cells67 : Tryz.prog.cellsOf 67 = 1 := by kernel_rfl

theorem nine {cs : List Value} (h : cs.length = 9) : ∃ c0 c1 c2 c3 c4 c5 c6 c7 c8, cs = [c0, c1, c2, c3, c4, c5, c6, c7, c8] := by
  match cs, h with
  | [c0, c1, c2, c3, c4, c5, c6, c7, c8], _ => exact ⟨c0, c1, c2, c3, c4, c5, c6, c7, c8, rfl⟩

end Go.Proofs.YtpdoacfiiledcaaGreatDoor

namespace Go.Proofs.YtpdoacfiiledcaaGreatDoor
open Go.ChangeShapes Go.WideShapes Go.ChangeAt Go.RowKit
set_option linter.unusedVariables false

theorem addr_plainS (b off k : Nat) : (⟨b, off, none⟩ : Addr).add k = ⟨b, off + k, none⟩ := by unfold Addr.add; split <;> simp_all

theorem slice_open {H : Type} {enc : TypeId × Value → H} {W : World} {fuel : Nat} {t e : TypeId} {v : Value} {x : DataW H × List MemPlace} (ht : Tryz.prog.underlying t = some (.slice e)) (h : DataW.trod enc Tryz.prog W 0 (fun _ => true) true fuel t [v] = some x) :
    ∃ (al : Option Addr) (n capl : Nat), v = .slice al n capl := by
  rcases Deep.open_slice ht h with ⟨hcs, _⟩ | ⟨a, l, c, m, n, D, Pl, hcs, _⟩
  · simp at hcs; exact ⟨_, _, _, hcs⟩
  · simp at hcs; exact ⟨_, _, _, hcs⟩
/-- What a step's reading tells of it. -/
structure OpReadS {H : Type} (d : DataW H) (a : Int) (s : ByteArray) : Prop where
  ra : -9223372036854775808 ≤ a ∧ a ≤ 9223372036854775807
  parts : ∃ ps, d = .agg ps ∧ ps.length = 9 ∧ DataW.lit (.string s.data.toList) ∈ ps
theorem int_range {a : Int} (h : (Lit.int .i64 a).wf = true) : -9223372036854775808 ≤ a ∧ a ≤ 9223372036854775807 := by
  simpa [Lit.wf, IntKind.min, IntKind.max, IntKind.signed, IntKind.bits] using h

theorem cells67 : Tryz.prog.cellsOf 67 = 1 := by kernel_rfl
/-- One step, out of its reading, with its docs. -/
theorem op_openS {H : Type} {enc : TypeId × Value → H} {W : World} {n : Nat} {cs : List Value} {x : DataW H × List MemPlace} (h : DataW.trod enc Tryz.prog W 0 (fun _ => true) true n 69 cs = some x) :
    ∃ (k a b' c d : Int) (s : ByteArray) (la : Option Addr) (ln lc : Nat) (na : Option Addr) (nn nc : Nat) (fa : Option Addr) (fn fc : Nat), cs = [.int .i64 k, .int .i64 a, .int .i64 b', .int .i64 c, .int .i64 d, .string s, .slice la ln lc, .slice na nn nc, .slice fa fn fc] ∧ OpReadS x.1 a s := by
  obtain ⟨xs, m, rfl, hx, hl, hxs, hf⟩ := DataW.trod_struct Tryz.underlying69 h
  rw [Tryz.cells69] at hl
  obtain ⟨c0, c1, c2, c3, c4, c5, c6, c7, c8, rfl⟩ := nine hl
  have hxl : xs.length = 9 := hxs
  have g0 : DataW.trod enc Tryz.prog W 0 (fun _ => true) true m 3 (([c0, c1, c2, c3, c4, c5, c6, c7, c8].drop 0).take (Tryz.prog.cellsOf 3)) = xs[0]? := hf 0 _ rfl
  rw [Tryz.cells3] at g0
  have g1 : DataW.trod enc Tryz.prog W 0 (fun _ => true) true m 3 (([c0, c1, c2, c3, c4, c5, c6, c7, c8].drop 1).take (Tryz.prog.cellsOf 3)) = xs[1]? := hf 1 _ rfl
  rw [Tryz.cells3] at g1
  have g2 : DataW.trod enc Tryz.prog W 0 (fun _ => true) true m 3 (([c0, c1, c2, c3, c4, c5, c6, c7, c8].drop 2).take (Tryz.prog.cellsOf 3)) = xs[2]? := hf 2 _ rfl
  rw [Tryz.cells3] at g2
  have g3 : DataW.trod enc Tryz.prog W 0 (fun _ => true) true m 3 (([c0, c1, c2, c3, c4, c5, c6, c7, c8].drop 3).take (Tryz.prog.cellsOf 3)) = xs[3]? := hf 3 _ rfl
  rw [Tryz.cells3] at g3
  have g4 : DataW.trod enc Tryz.prog W 0 (fun _ => true) true m 3 (([c0, c1, c2, c3, c4, c5, c6, c7, c8].drop 4).take (Tryz.prog.cellsOf 3)) = xs[4]? := hf 4 _ rfl
  rw [Tryz.cells3] at g4
  have g5 : DataW.trod enc Tryz.prog W 0 (fun _ => true) true m 9 (([c0, c1, c2, c3, c4, c5, c6, c7, c8].drop 5).take (Tryz.prog.cellsOf 9)) = xs[5]? := hf 5 _ rfl
  rw [Tryz.cells9] at g5
  have g6 : DataW.trod enc Tryz.prog W 0 (fun _ => true) true m 66 (([c0, c1, c2, c3, c4, c5, c6, c7, c8].drop 6).take (Tryz.prog.cellsOf 66)) = xs[6]? := hf 6 _ rfl
  rw [Tryz.cells66] at g6
  have g7 : DataW.trod enc Tryz.prog W 0 (fun _ => true) true m 67 (([c0, c1, c2, c3, c4, c5, c6, c7, c8].drop 7).take (Tryz.prog.cellsOf 67)) = xs[7]? := hf 7 _ rfl
  rw [cells67] at g7
  have g8 : DataW.trod enc Tryz.prog W 0 (fun _ => true) true m 67 (([c0, c1, c2, c3, c4, c5, c6, c7, c8].drop 8).take (Tryz.prog.cellsOf 67)) = xs[8]? := hf 8 _ rfl
  rw [cells67] at g8
  rw [List.getElem?_eq_getElem (by omega)] at g0 g1 g2 g3 g4 g5 g6 g7 g8
  obtain ⟨k, e0, _, _⟩ := DataW.trod_int Tryz.underlying3 g0
  obtain ⟨a, e1, _, hwa⟩ := DataW.trod_int Tryz.underlying3 g1
  obtain ⟨b', e2, _, _⟩ := DataW.trod_int Tryz.underlying3 g2
  obtain ⟨c, e3, _, _⟩ := DataW.trod_int Tryz.underlying3 g3
  obtain ⟨d, e4, _, _⟩ := DataW.trod_int Tryz.underlying3 g4
  obtain ⟨s, e5, hs5, hs⟩ := DataW.trod_string Tryz.underlying9 g5
  obtain ⟨la, ln, lc, e6⟩ := slice_open Tryz.underlying66 g6
  obtain ⟨na, nn, nc, e7⟩ := slice_open Tryz.underlying67 g7
  obtain ⟨fa, fn, fc, e8⟩ := slice_open Tryz.underlying67 g8
  simp at e0 e1 e2 e3 e4 e5
  subst e0 e1 e2 e3 e4 e5 e6 e7 e8
  refine ⟨k, a, b', c, d, s, la, ln, lc, na, nn, nc, fa, fn, fc, rfl, int_range hwa, xs.map (·.1), by rw [hx], by simp [hxl], ?_⟩
  refine List.mem_map.2 ⟨xs[5], List.getElem_mem _, ?_⟩
  rw [hs5]

/-- WHAT THE ARGUMENT GIVES: a script that is empty, or lies in memory step by step, and what its reading tells. -/
theorem script_openS {H : Type} {enc : TypeId × Value → H} {W : World} {a0 : Option Addr} {len0 cap0 : Nat} {d0 : DataW H} {p0 : List MemPlace} (h : DataW.Trod enc Tryz.prog W 0 (fun _ => true) true 22 (.slice a0 len0 cap0) d0 p0) :
    len0 = 0 ∨ ∃ b off elems sp, a0 = some ⟨b, off, none⟩ ∧ b < W.heap.size ∧ d0 = .slice elems sp ∧ elems.length = len0 ∧ ∀ i, i < len0 → ∃ (k a b' c d : Int) (s : ByteArray) (la : Option Addr) (ln lc : Nat) (na : Option Addr) (nn nc : Nat) (fa : Option Addr) (fn fc : Nat) (e : DataW H), elems[i]? = some e ∧ OpAt W b (off + i * 9) k a b' c d s (.slice la ln lc) (.slice na nn nc) (.slice fa fn fc) ∧ OpReadS e a s := by
  obtain ⟨fuel, hf⟩ := h
  rcases Deep.open_slice Tryz.underlying22 hf with ⟨hcs, _⟩ | ⟨x, l, c, m, n, D, Pl, hcs, _, hl, hm, hmm, hx, hel⟩
  · simp [Value.cells] at hcs
    exact Or.inl hcs.2.1
  · simp [Value.cells] at hcs
    obtain ⟨rfl, rfl, rfl⟩ := hcs
    simp only [if_true] at hmm
    subst hmm
    rw [Tryz.cells69] at hel
    by_cases h0 : len0 = 0
    · exact Or.inl h0
    right
    obtain ⟨b, off, spot⟩ := x
    have key : ∀ i, i < len0 → ∃ (k a b' c d : Int) (s : ByteArray) (la : Option Addr) (ln lc : Nat) (na : Option Addr) (nn nc : Nat) (fa : Option Addr) (fn fc : Nat), W.cells? 0 ((⟨b, off, spot⟩ : Addr).add (i * 9)) 9 = some [.int .i64 k, .int .i64 a, .int .i64 b', .int .i64 c, .int .i64 d, .string s, .slice la ln lc, .slice na nn nc, .slice fa fn fc] ∧ OpReadS (D i) a s := by
      intro i hi
      obtain ⟨cs, h1, h2⟩ := hel i (by omega)
      obtain ⟨k, a, b', c, d, s, la, ln, lc, na, nn, nc, fa, fn, fc, rfl, hr⟩ := op_openS h2
      exact ⟨k, a, b', c, d, s, la, ln, lc, na, nn, nc, fa, fn, fc, h1, hr⟩
    obtain ⟨k, a, b', c, d, s, la, ln, lc, na, nn, nc, fa, fn, fc, hc, _⟩ := key 0 (by omega)
    have hb := World.cells?_block hc (by omega)
    have h00 := (World.cells?_some hc).2.2 0 (by omega)
    have hspot : spot = none := by simpa [Addr.add] using World.cell?_spot h00
    subst hspot
    simp only [Prod.mk.injEq] at hx
    refine ⟨b, off, _, _, rfl, by simpa [Addr.add] using hb, hx.1, by simp, ?_⟩
    intro i hi
    obtain ⟨k, a, b', c, d, s, la, ln, lc, na, nn, nc, fa, fn, fc, hc, hr⟩ := key i hi
    have hall := (World.cells?_some hc).2.2
    have hadd : ∀ j, ((⟨b, off, none⟩ : Addr).add (i * 9)).add j = ⟨b, off + i * 9 + j, none⟩ := by
      intro j
      rw [addr_plainS, addr_plainS]
    refine ⟨k, a, b', c, d, s, la, ln, lc, na, nn, nc, fa, fn, fc, D i, by simp [hi], ?_, hr⟩
    unfold OpAt
    have q0 := hall 0 (by omega)
    have q1 := hall 1 (by omega)
    have q2 := hall 2 (by omega)
    have q3 := hall 3 (by omega)
    have q4 := hall 4 (by omega)
    have q5 := hall 5 (by omega)
    have q6 := hall 6 (by omega)
    have q7 := hall 7 (by omega)
    have q8 := hall 8 (by omega)
    rw [hadd] at q0 q1 q2 q3 q4 q5 q6 q7 q8
    exact ⟨q0, q1, q2, q3, q4, q5, q6, q7, q8⟩
end Go.Proofs.YtpdoacfiiledcaaGreatDoor

namespace Go.Proofs.YtpdoacfiiledcaaGreatDoor
open Go

/-- A tied card of a call that can start goroutines. -/
theorem tied_goes (Lk : Looks) {p : Pinned} {s : OpenSpec} {c : OpenClaim} (ld : List LaidKind) (ts : Bool) (har : Bool × String) (lk : Bool)
    (hc : c.holds p s) (hw : c.wfByText s = true) (htie : c.laidByTextAt Lk p ld ts)
    (hst : c.start = .entering) (hnb : c.noBlocks = false ∧ c.again = false) (hm : p.checked.prog.mainIs = some (har.1, har.2.toList)) (hn : (!har.1 && har.2.isEmpty && !lk) = false)
    (hl : ∀ f fn, p.checked.prog.funcNamed c.func = some f → p.checked.prog.funcs[f]? = some fn → lk = p.checked.prog.looks [] ∧ ∀ (j : Nat) t, fn.params[j]? = some t → p.checked.prog.wantsStandIn t = false)
    (hg : true = c.goesBy p.checked.prog) :
    Claim7.holds p (.plain s) { stood := { row := c, standIns := [], harness := har, looks := lk }, kinds := [], alts := [], goes := true, laidByText := true, laidKinds := ld, laidTests := ts, laidLooks := Lk } := by
  have h6 : Claim7.isSixth { stood := { row := c, standIns := [], harness := har, looks := lk }, kinds := [] } = false := by simpa [Claim7.isSixth] using hn
  refine ⟨Claim7.tied_new_at Lk ld ts (Claim7.new_of_sixth hc har lk hst hnb hm h6 hl) hw, fun D hD => ?_, htie, (fun h => by cases h), hg⟩
  cases hD

end Go.Proofs.YtpdoacfiiledcaaGreatDoor

