import Derived.Test.YtnffagpdnklnkaaGreatDoorV16
import Derived.Lib.BitFns
import Derived.Lib.TrailingZeros
import Derived.RangeFuncNested
import Derived.RangeFuncBound
import Derived.RangeFuncCalls
import Derived.RangeFuncLeaves
import Derived.Shelf.Abstract
import Derived.Shelf.RegionOpen
import Derived.WalkKit
import Derived.OwnWalkIn
import Derived.TacticsInMore
import Derived.LoopNIn
import Derived.LoopIn
set_option linter.unusedVariables false
set_option linter.unusedSimpArgs false
set_option maxRecDepth 8000
namespace Go.Proofs.YtnffagpdnklnkaaGreatDoor.Pak
open Go.RowKit Go.Proofs.YtnffagpdnklnkaaGreatDoor Go.Proofs.YtnffagpdnklnkaaGreatDoor.Spl SiftM Go.Maps
theorem behind_all (b B : Nat) : ∀ f, BehindOk b B f
  | 0 => by
    intro a n cap p L kn w hv hn h1 hcap hb hL hp hB hkn hBw
    exfalso
    cases L with
    | nil => simp at hn; omega
    | cons t L =>
      have := hL.len t (by simp)
      omega
  | f + 1 => behind_step b B f (behind_all b B f)

theorem make_about (w : World) : (Instr.makeSlice 107 (.int .i64 1) (.int .i64 1)).run Tryz.prog w = .ok (.slice (some ⟨w.heap.size, 0, none⟩) 1 1) (w.alloc (.cells #[.bool false, .int .i64 0] 307)) := by
  obtain ⟨i0, hi, hz0, hz1, hz2⟩ := info_parts info487
  have := run_make (P := Tryz.prog) w 107 307 i0 (.agg #[.bool false, .int .i64 0]) Tryz.underlying107 hi hz0 .i64 .i64 1 1 (by omega) (by omega) (by rw [hz2]; omega) (by omega)
  rw [hz1] at this
  have e : madeCells (Value.agg #[.bool false, .int .i64 0]).cells (1 * 2) = #[.bool false, .int .i64 0] := by kernel_rfl
  have e1 : (Int.toNat 1 * 2) = 1 * 2 := rfl
  rw [e1, e] at this
  simpa using this

/-- A builder as it is made. -/
def made0 (w : World) : World := ((((w.alloc (.cells #[.map none, .slice none 0 0, .int .i64 0] 110)).alloc (.map #[] 0)).alloc (.map #[] 0)).alloc (.cells #[.bool false, .int .i64 0] 307)).alloc (.cells #[.map (some (w.heap.size + 1)), .map (some (w.heap.size + 1 + 1)), .slice (some ⟨w.heap.size + 1 + 1 + 1, 0, none⟩) 1 1, .int .i64 0] 237)
theorem made0_kp (w : World) : Kp [] w (made0 w) := (((((Kp.refl _ _).alloc _).alloc _).alloc _).alloc _).alloc _
theorem made0_size (w : World) : (made0 w).heap.size = w.heap.size + 5 := by simp [made0]
theorem made0_bl (w : World) : Bl (made0 w) (w.heap.size + 1 + 1 + 1 + 1) (w.heap.size + 1) (w.heap.size + 1) (w.heap.size + 1 + 1) (some ⟨w.heap.size + 1 + 1 + 1, 0, none⟩) 1 0 [(false, 0)] [] := by
  obtain ⟨w1, h1⟩ : ∃ w1, w.alloc (.cells #[.map none, .slice none 0 0, .int .i64 0] 110) = w1 := ⟨_, rfl⟩
  have z1 : w1.heap.size = w.heap.size + 1 := by rw [← h1]; simp
  obtain ⟨w2, h2⟩ : ∃ w2, w1.alloc (.map #[] 0) = w2 := ⟨_, rfl⟩
  have z2 : w2.heap.size = w.heap.size + 2 := by rw [← h2]; simp [z1]
  obtain ⟨w3, h3⟩ : ∃ w3, w2.alloc (.map #[] 0) = w3 := ⟨_, rfl⟩
  have z3 : w3.heap.size = w.heap.size + 3 := by rw [← h3]; simp [z2]
  obtain ⟨w4, h4⟩ : ∃ w4, w3.alloc (.cells #[.bool false, .int .i64 0] 307) = w4 := ⟨_, rfl⟩
  have z4 : w4.heap.size = w.heap.size + 4 := by rw [← h4]; simp [z3]
  have hkn : KnIs w2 (w.heap.size + 1) [] := by rw [← h2, ← z1]; exact knIs_made w1
  have hld : LeadIs w3 (w.heap.size + 1 + 1) 0 := by rw [← h3, ← z2]; exact leadIs_made w2
  have hab : w4.heap[w.heap.size + 1 + 1 + 1]? = some (.cells #[.bool false, .int .i64 0] 307 (0, 0)) := by
    rw [← h4, show w.heap.size + 1 + 1 + 1 = w3.heap.size by omega]; exact heap_alloc_new w3 _
  have hm : made0 w = w4.alloc (.cells #[.map (some (w.heap.size + 1)), .map (some (w.heap.size + 1 + 1)), .slice (some ⟨w.heap.size + 1 + 1 + 1, 0, none⟩) 1 1, .int .i64 0] 237) := by
    unfold made0; rw [h1, h2, h3, h4]
  have k45 : Kp [] w4 (made0 w) := by rw [hm]; exact (Kp.refl _ _).alloc _
  have k34 : Kp [] w3 w4 := by rw [← h4]; exact (Kp.refl _ _).alloc _
  have k23 : Kp [] w2 w3 := by rw [← h3]; exact (Kp.refl _ _).alloc _
  refine ⟨?_, ((hkn.kp k23 (by simp)).kp k34 (by simp)).kp k45 (by simp), (hld.kp k34 (by simp)).kp k45 (by simp), ?_, rfl, by omega, by omega, by omega, by omega, fun x hx => by simp at hx⟩
  · rw [hm, show w.heap.size + 1 + 1 + 1 + 1 = w4.heap.size by omega]
    exact heap_alloc_new w4 _
  · refine ⟨rfl, .inr ⟨w.heap.size + 1 + 1 + 1, 1, _, rfl, by omega, k45.heap hab (by simp), by simp, by unfold maxLen; omega, by simp, by simp [abV]⟩⟩

theorem kp_below {B : Nat} {w w1 w2 : World} (k : Kp [] w w1) (hb : Below B w1 w2) (hB : w.heap.size ≤ B) : Kp [] w w2 :=
  ⟨by rw [hb.os, k.os], by rw [hb.tape, k.tape], by rw [hb.output, k.output], Nat.le_trans k.size hb.size, fun i hi hn => by rw [hb.block i (by omega)]; exact k.block i hi hn⟩
theorem tails_zero (L : List (List UInt8)) : tails L 0 = L.map St.sw := by simp [tails]

set_option maxHeartbeats 2000000 in
theorem dictOf_any (n cap : Nat) (a : Option Addr) (L : List (List UInt8)) (w : World) (hv : Tv w w.heap.size a L) (hn : L.length = n) (hcap : n ≤ cap) (hb : n ≤ 10000) (hL : ∀ t ∈ L, t.length ≤ 8) (hS : ∀ t ∈ L, St.Small t) (hs : St.Srt (L.map St.sw)) :
    Calls Tryz.prog 124 #[.slice a n cap] w fun e w' => ∃ (M2 : Nat) (aa : Option Addr) (ca : Nat) (st : Int), e = .returned (.agg #[.map (some M2), .slice aa ((St.refSets L).length + 1) ca, .int .i64 st]) ∧ Kp [] w w' := by
  have hmk := make_about
  have hmm := @run_makeMap Tryz.prog
  have HV := hide hv
  have HN := hide hn
  have HL := hide hL
  have HS := hide hS
  have Hs := hide hs
  clear hv hn hL hS hs
  by_cases hn0 : n = 0
  · subst hn0
    go_enter Tryz.func124, Tryz.ntmps124
    go_wp2_with fail
    have hL0 : L = [] := List.length_eq_zero_iff.1 HN.out
    subst hL0
    obtain ⟨W9, hW9⟩ : ∃ W9, ((((w.alloc (.cells #[.map (some (w.heap.size + 1 + 1)), .slice (some ⟨w.heap.size + 1 + 1 + 1, 0, none⟩) 1 1, .int .i64 0] 110)).alloc (.map #[] 0)).alloc (.map #[] 0)).alloc (.cells #[.bool false, .int .i64 0] 307)).alloc (.cells #[.map (some (w.heap.size + 1)), .map (some (w.heap.size + 1 + 1)), .slice (some ⟨w.heap.size + 1 + 1 + 1, 0, none⟩) 1 1, .int .i64 0] 237) = W9 := ⟨_, rfl⟩
    rw [hW9]
    have k9 : Kp [] w W9 := by rw [← hW9]; exact (((((Kp.refl _ _).alloc _).alloc _).alloc _).alloc _).alloc _
    have hR9 : W9.heap[w.heap.size]? = some (.cells #[.map (some (w.heap.size + 1 + 1)), .slice (some ⟨w.heap.size + 1 + 1 + 1, 0, none⟩) 1 1, .int .i64 0] 110 (0, 0)) := by
      have h1 := heap_alloc_new w (.cells #[.map (some (w.heap.size + 1 + 1)), .slice (some ⟨w.heap.size + 1 + 1 + 1, 0, none⟩) 1 1, .int .i64 0] 110)
      rw [← hW9, Below.heap_alloc _ _ _ (by simp; omega), Below.heap_alloc _ _ _ (by simp; omega), Below.heap_alloc _ _ _ (by simp; omega), Below.heap_alloc _ _ _ (by simp)]
      exact h1
    obtain ⟨e0, e1, e2, _, _, _⟩ := tb_cells hR9
    refine bodyPost_ret (v := .agg #[.map (some (w.heap.size + 1 + 1)), .slice (some ⟨w.heap.size + 1 + 1 + 1, 0, none⟩) 1 1, .int .i64 0]) (by simp [results, Tryz.results124, go_sem, e0, e1, e2]) rfl ⟨_, _, _, _, rfl, k9⟩
  · have hx0 : (0 : Int) < (n : Int) := by omega
    have hcall := behind_all (w.heap.size + 1 + 1 + 1 + 1) (w.heap.size + 1) 9 a n cap 0 L [] (made0 w) (by
        rcases HV.out with h | ⟨g, off, e, hg, hc⟩
        · exact .inl h
        · exact .inr ⟨g, off, e, by omega, fun i hi => (made0_kp w).cellv (hc i hi) (by simp)⟩) HN.out (by omega) hcap hb
      ⟨fun t ht => by have := HL.out t ht; omega, HS.out, by rw [tails_zero]; exact Hs.out⟩ (by omega) ⟨_, _, _, _, _, _, made0_bl w⟩ (by
        rw [tails_zero]
        have h1 : ∀ (M : List (List UInt8)), (∀ t ∈ M, t.length ≤ 8) → sz1 (M.map St.sw) ≤ M.length * 9 := by
          intro M
          induction M with
          | nil => intro _; simp [sz1, sz0]
          | cons t M ih =>
            intro h
            have h2 := ih fun x hx => h x (by simp [hx])
            have h3 := h t (by simp)
            have h4 : (St.sw t).length = t.length := by simp [St.sw]
            simp only [sz1, sz0, List.map_cons, List.sum_cons, List.length_cons] at h2 ⊢
            omega
        have h2 := h1 L HL.out
        have h3 := HN.out
        simp only [List.length_nil]
        omega) (by rw [made0_size]; omega)
    rw [tails_zero] at hcall
    have hse : (St.beh 9 (L.map St.sw) []).2.length = (St.refSets L).length := St.states_eq (by intro e; rw [e] at HN; have := HN.out; simp at this; omega) Hs.out HS.out (fun t ht => by have := HL.out t ht; omega)
    obtain ⟨r, hr⟩ : ∃ r, St.beh 9 (L.map St.sw) [] = r := ⟨_, rfl⟩
    rw [hr] at hcall hse
    rw [← hse]
    have HCL := hide hcall
    unfold made0 at HCL
    have hR : (made0 w).heap[w.heap.size]? = some (.cells #[.map none, .slice none 0 0, .int .i64 0] 110 (0, 0)) := by
      have h1 := heap_alloc_new w (.cells #[.map none, .slice none 0 0, .int .i64 0] 110)
      unfold made0
      rw [Below.heap_alloc _ _ _ (by simp; omega), Below.heap_alloc _ _ _ (by simp; omega), Below.heap_alloc _ _ _ (by simp; omega), Below.heap_alloc _ _ _ (by simp)]
      exact h1
    have HR := hide hR
    have hmz := made0_size w
    have hmk2 := made0_kp w
    clear hcall hr hse hR
    go_enter Tryz.func124, Tryz.ntmps124
    go_wp2_with fail
    refine HCL.out.mono ?_
    rintro e w1 ⟨rfl, ⟨M, M2, aa, ca, st, A, hbl⟩, hbe, hkx⟩
    have hR1 : w1.heap[w.heap.size]? = some (.cells #[.map none, .slice none 0 0, .int .i64 0] 110 (0, 0)) := by
      rw [hbe.block w.heap.size (by omega)]; exact HR.out
    obtain ⟨c0, c1, c2, c3, f2, f3⟩ := bd_cells hbl.heap
    obtain ⟨r0, r1, r2, q0, q1, q2⟩ := tb_cells hR1
    have hb1 : w.heap.size ≠ w.heap.size + 1 + 1 + 1 + 1 := by omega
    go_wp2_with fail
    obtain ⟨W9, hW9⟩ : ∃ W9, (((w1.setCell ⟨w.heap.size + 1 + 1 + 1 + 1, 3, none⟩ (.int .i64 ((r.1 : Nat) : Int))).setCell ⟨w.heap.size, 0, none⟩ (.map (some M2))).setCell ⟨w.heap.size, 1, none⟩ (.slice aa (r.2.length + 1) ca)).setCell ⟨w.heap.size, 2, none⟩ (.int .i64 ((r.1 : Nat) : Int)) = W9 := ⟨_, rfl⟩
    rw [hW9]
    have hR2 : (w1.setCell ⟨w.heap.size + 1 + 1 + 1 + 1, 3, none⟩ (.int .i64 ((r.1 : Nat) : Int))).heap[w.heap.size]? = some (.cells #[.map none, .slice none 0 0, .int .i64 0] 110 (0, 0)) :=
      ((Kp.refl [w.heap.size + 1 + 1 + 1 + 1] w1).setCell (.inl (by simp)) _).heap hR1 (by simpa using hb1)
    have hR9 : W9.heap[w.heap.size]? = some (.cells #[.map (some M2), .slice aa (r.2.length + 1) ca, .int .i64 ((r.1 : Nat) : Int)] 110 (0, 0)) := by
      rw [← hW9, heap_setCell_same _ w.heap.size 2 _ 110 _ (heap_setCell_same _ w.heap.size 1 _ 110 _ (heap_setCell_same _ w.heap.size 0 _ 110 _ hR2))]
      rfl
    have k9 : Kp [w.heap.size, w.heap.size + 1 + 1 + 1 + 1] w1 W9 := by
      rw [← hW9]; exact ((((Kp.refl _ _).setCell (.inl (by simp)) _).setCell (.inl (by simp)) _).setCell (.inl (by simp)) _).setCell (.inl (by simp)) _
    obtain ⟨e0, e1, e2, _, _, _⟩ := tb_cells hR9
    have kw1 : Kp [] w w1 := kp_below hmk2 hbe (by omega)
    have kw9 : Kp [] w W9 := kw1.trans k9 (by intro x hx; right; simp at hx; omega)
    refine bodyPost_ret (v := .agg #[.map (some M2), .slice aa (r.2.length + 1) ca, .int .i64 ((r.1 : Nat) : Int)]) (by simp [results, Tryz.results124, go_sem, e0, e1, e2]) rfl ⟨_, _, _, _, rfl, kw9⟩
theorem ofInt_u64 (a : Nat) (h : a < 18446744073709551616) : (BitVec.ofInt 64 (a : Int)).toNat = a := by
  rw [BitVec.toNat_ofInt]; omega
theorem wrap_u64 (a : Nat) (h : a < 18446744073709551616) : IntKind.u64.wrap (a : Int) = (a : Int) := by
  simp [IntKind.wrap, IntKind.bits, IntKind.signed]
  omega
theorem u64_or_nat (a b : Nat) (ha : a < 18446744073709551616) (hb : b < 18446744073709551616) : bits .or .u64 (a : Int) (b : Int) = ((a ||| b : Nat) : Int) := by
  have hx : a ||| b < 2 ^ 64 := Nat.or_lt_two_pow (by omega) (by omega)
  show IntKind.u64.wrap ((BitVec.ofInt 64 (a : Int) ||| BitVec.ofInt 64 (b : Int)).toNat : Int) = _
  rw [BitVec.toNat_or, ofInt_u64 a ha, ofInt_u64 b hb, wrap_u64 _ (by omega)]
theorem u64_and_nat (a b : Nat) (ha : a < 18446744073709551616) (hb : b < 18446744073709551616) : bits .and .u64 (a : Int) (b : Int) = ((a &&& b : Nat) : Int) := by
  have hx : a &&& b ≤ a := Nat.and_le_left
  show IntKind.u64.wrap ((BitVec.ofInt 64 (a : Int) &&& BitVec.ofInt 64 (b : Int)).toNat : Int) = _
  rw [BitVec.toNat_and, ofInt_u64 a ha, ofInt_u64 b hb, wrap_u64 _ (by omega)]
theorem pow_u64 (d : Nat) (h : d < 64) : IntKind.u64.wrap (2 ^ d) = ((2 ^ d : Nat) : Int) := by
  have h1 : (2 : Nat) ^ d < 2 ^ 64 := Nat.pow_lt_pow_right (by omega) h
  have e : ((2 : Int) ^ d) = ((2 ^ d : Nat) : Int) := by simp
  rw [e]
  exact wrap_u64 _ (by omega)

set_option maxHeartbeats 400000 in
theorem with_any (s d : Nat) (w : World) (hs : s < 18446744073709551616) (hd : d < 64) :
    Calls Tryz.prog 120 #[.int .u64 (s : Int), .int .i64 (d : Int)] w fun e w' => e = .returned (.int .u64 ((s ||| 2 ^ d : Nat) : Int)) ∧ w' = w := by
  have h0 : (0 : Int) ≤ (d : Int) := by omega
  have h1 : (2 : Nat) ^ d < 2 ^ 64 := Nat.pow_lt_pow_right (by omega) hd
  go_enter Tryz.func120, Tryz.ntmps120
  go_wp2_with fail
  go_ret
  refine ⟨?_, rfl⟩
  show Ending.returned (Value.int .u64 (bits .or .u64 (s : Int) (IntKind.u64.wrap (2 ^ d)))) = _
  rw [pow_u64 d hd, u64_or_nat s _ hs (by omega)]
set_option maxHeartbeats 400000 in
theorem first_any (n : Nat) (w : World) (hn : n ≤ 60) :
    Calls Tryz.prog 191 #[.int .i64 (n : Int)] w fun e w' => e = .returned (.int .u64 ((2 ^ n - 1 : Nat) : Int)) ∧ w' = w := by
  have h0 : (0 : Int) ≤ (n : Int) := by omega
  have h1 : (2 : Nat) ^ n < 2 ^ 64 := Nat.pow_lt_pow_right (by omega) (by omega)
  have h2 : 1 ≤ (2 : Nat) ^ n := Nat.one_le_two_pow
  go_enter Tryz.func191, Tryz.ntmps191
  go_wp2_with fail
  go_ret
  refine ⟨?_, rfl⟩
  show Ending.returned (Value.int .u64 (IntKind.u64.wrap (IntKind.u64.wrap (2 ^ n) - 1))) = _
  rw [pow_u64 n (by omega), show ((2 ^ n : Nat) : Int) - 1 = ((2 ^ n - 1 : Nat) : Int) by omega, wrap_u64 _ (by omega)]

/-! The number of ones. -/
theorem and_split (k a b c d : Nat) (ha : a < 2 ^ k) (hc : c < 2 ^ k) : (a + 2 ^ k * b) &&& (c + 2 ^ k * d) = (a &&& c) + 2 ^ k * (b &&& d) := by
  have hp : 0 < 2 ^ k := Nat.two_pow_pos k
  have h1 : ((a + 2 ^ k * b) &&& (c + 2 ^ k * d)) % 2 ^ k = a &&& c := by
    rw [Nat.and_mod_two_pow, Nat.add_mul_mod_self_left, Nat.add_mul_mod_self_left, Nat.mod_eq_of_lt ha, Nat.mod_eq_of_lt hc]
  have h2 : ((a + 2 ^ k * b) &&& (c + 2 ^ k * d)) / 2 ^ k = b &&& d := by
    rw [Nat.and_div_two_pow, Nat.add_mul_div_left _ _ hp, Nat.add_mul_div_left _ _ hp, Nat.div_eq_of_lt ha, Nat.div_eq_of_lt hc]
    simp
  have h3 := Nat.mod_add_div ((a + 2 ^ k * b) &&& (c + 2 ^ k * d)) (2 ^ k)
  rw [h1, h2] at h3
  exact h3.symm
/-- Fields of k bits, one behind the other. -/
def fld (k : Nat) : List Nat → Nat
  | [] => 0
  | a :: l => a + 2 ^ k * fld k l
theorem fld_and (k : Nat) : ∀ (l m : List Nat), l.length = m.length → (∀ x ∈ l, x < 2 ^ k) → (∀ x ∈ m, x < 2 ^ k) → fld k l &&& fld k m = fld k (List.zipWith (· &&& ·) l m)
  | [], [], _, _, _ => by simp [fld]
  | a :: l, c :: m, h, h1, h2 => by
    simp only [fld, List.zipWith_cons_cons]
    rw [and_split k a _ c _ (h1 a (by simp)) (h2 c (by simp)), fld_and k l m (by simpa using h) (fun x hx => h1 x (by simp [hx])) (fun x hx => h2 x (by simp [hx]))]
theorem fld_add (k : Nat) : ∀ (l m : List Nat), l.length = m.length → fld k l + fld k m = fld k (List.zipWith (· + ·) l m)
  | [], [], _ => by simp [fld]
  | a :: l, c :: m, h => by
    simp only [fld, List.zipWith_cons_cons]
    rw [← fld_add k l m (by simpa using h), Nat.mul_add]
    omega
theorem fld_lt (k : Nat) : ∀ (l : List Nat), (∀ x ∈ l, x < 2 ^ k) → fld k l < 2 ^ (k * l.length)
  | [], _ => by simp [fld]
  | a :: l, h => by
    have ih := fld_lt k l fun x hx => h x (by simp [hx])
    have ha := h a (by simp)
    simp only [fld, List.length_cons, Nat.mul_add, Nat.mul_one, Nat.pow_add]
    have h1 : 2 ^ k * fld k l + 2 ^ k ≤ 2 ^ k * 2 ^ (k * l.length) := by
      have := Nat.mul_le_mul_left (2 ^ k) (show fld k l + 1 ≤ 2 ^ (k * l.length) by omega)
      rw [Nat.mul_add, Nat.mul_one] at this
      exact this
    rw [Nat.mul_comm (2 ^ (k * l.length))]
    omega
end Go.Proofs.YtnffagpdnklnkaaGreatDoor.Pak
namespace Go.Proofs.YtnffagpdnklnkaaGreatDoor.Pak
open Go.RowKit Go.Proofs.YtnffagpdnklnkaaGreatDoor Go.Proofs.YtnffagpdnklnkaaGreatDoor.Spl SiftM
/-- The table of math/bits lies in its variable. -/
def Tab64 (w : World) : Prop := ∀ j, j < 64 → w.cell? ⟨1, j, none⟩ = some (.int .u8 ((Lib.deBruijn64tab.getD j 0 : Nat) : Int))
theorem Tab64.kp {S : List Nat} {w w' : World} (h : Tab64 w) (k : Kp S w w') (h0 : 1 ∉ S) : Tab64 w' := fun j hj => k.cellv (h j hj) h0
theorem tz_key (x a : Nat) (hx : x < 18446744073709551616) (hx0 : x ≠ 0) (hlow : x &&& (18446744073709551616 - x) = a) :
    IntKind.u64.wrap (bits .and .u64 (x : Int) (IntKind.u64.wrap (-(x : Int))) * 285870213051353865) / 288230376151711744 = ((a * 285870213051353865 % 18446744073709551616 / 288230376151711744 : Nat) : Int) := by
  have e1 : IntKind.u64.wrap (-(x : Int)) = ((18446744073709551616 - x : Nat) : Int) := by
    simp [IntKind.wrap, IntKind.signed, IntKind.bits]
    omega
  rw [e1, u64_and_nat x _ hx (by omega), hlow]
  simp [IntKind.wrap, IntKind.signed, IntKind.bits]
set_option maxHeartbeats 1000000 in
theorem tz_any (x : Nat) (w : World) (hx : x < 18446744073709551616) (hx0 : x ≠ 0) (hT : Tab64 w) :
    Calls Tryz.prog 164 #[.int .u64 (x : Int)] w fun e w' => e = .returned (.int .i64 (Lib.ctz 64 x : Nat)) ∧ w' = w := by
  obtain ⟨hlow, hk⟩ := Lib.lowest_bit 64 x hx0 hx
  obtain ⟨hi, htab⟩ := Lib.deBruijn64_at _ hk
  have key := tz_key x _ hx hx0 hlow
  obtain ⟨k, hkk⟩ : ∃ k, Lib.ctz 64 x = k := ⟨_, rfl⟩
  rw [hkk] at key hi htab hk ⊢
  obtain ⟨idx, hidx⟩ : ∃ idx, 2 ^ k * 285870213051353865 % 18446744073709551616 / 288230376151711744 = idx := ⟨_, rfl⟩
  rw [hidx] at key hi htab
  have hc := hT idx hi
  rw [htab] at hc
  have h0 : ((x : Int) == 0) = false := by rw [beq_eq_false_iff_ne]; omega
  clear hT hlow hkk hidx htab
  go_enter Tryz.func164, Tryz.ntmps164
  go_wp2_with (simp only [key])
  go_ret
  exact ⟨rfl, rfl⟩
attribute [local go_sem] Oper.semAt_some

/-- The docs of a set. -/
def bitsOf (x : Nat) : List Nat := (List.range 64).filter fun i => x.testBit i
theorem bits_facts (x : Nat) (h0 : x ≠ 0) (h : x < 18446744073709551616) : Lib.ctz 64 x < 64 ∧ x.testBit (Lib.ctz 64 x) = true ∧ (∀ i, i < Lib.ctz 64 x → x.testBit i = false) ∧ ∀ i, (x &&& (x - 1)).testBit i = (x.testBit i && !decide (i = Lib.ctz 64 x)) := by
  have e : Lib.ctz 64 x = Lib.ctzFrom 64 x := by simp [Lib.ctz, h0]
  obtain ⟨m, hm, hk⟩ := Lib.ctzFrom_spec 64 x (by omega) (by simpa using h)
  rw [e]
  obtain ⟨k, hkk⟩ : ∃ k, Lib.ctzFrom 64 x = k := ⟨_, rfl⟩
  rw [hkk] at hm hk ⊢
  have hlow : ∀ i, i < k → x.testBit i = false := by
    intro i hi
    rw [hm, Nat.mul_comm, Nat.testBit_mul_two_pow]
    simp; omega
  have hkb : x.testBit k = true := by
    rw [hm, Nat.mul_comm, Nat.testBit_mul_two_pow]
    simp
  refine ⟨hk, hkb, hlow, fun i => ?_⟩
  rw [Nat.testBit_and]
  have hp : 0 < 2 ^ k := Nat.pow_pos (by omega)
  have e1 : x - 1 = 2 ^ (k + 1) * m + (2 ^ k - 1) := by
    rw [hm, Nat.pow_succ, Nat.mul_add, Nat.mul_one, Nat.mul_assoc]
    omega
  rcases Nat.lt_trichotomy i k with hi | hi | hi
  · rw [hlow i hi]; simp
  · subst hi
    have : (x - 1).testBit i = false := by
      rw [e1, Nat.testBit_eq_decide_div_mod_eq]
      have h2 : (2 ^ (i + 1) * m + (2 ^ i - 1)) / 2 ^ i = 2 * m := by
        rw [Nat.pow_succ, Nat.mul_assoc, Nat.mul_add_div hp, Nat.div_eq_of_lt (by omega)]
        simp
      rw [h2]; simp
    rw [this]; simp
  · have h3 : ∀ y, y / 2 ^ (k + 1) = m → y.testBit i = m.testBit (i - (k + 1)) := by
      intro y hy
      rw [← hy, Nat.testBit_div_two_pow]
      congr 1; omega
    have hp1 : 0 < 2 ^ (k + 1) := Nat.pow_pos (by omega)
    have h4 : x / 2 ^ (k + 1) = m := by
      have : x = 2 ^ (k + 1) * m + 2 ^ k := by rw [hm, Nat.pow_succ, Nat.mul_add, Nat.mul_one, Nat.mul_assoc]
      rw [this, Nat.mul_add_div hp1, Nat.div_eq_of_lt (by rw [Nat.pow_succ]; omega)]; simp
    have h5 : (x - 1) / 2 ^ (k + 1) = m := by
      rw [e1, Nat.mul_add_div hp1, Nat.div_eq_of_lt (by rw [Nat.pow_succ]; omega)]; simp
    rw [h3 x h4, h3 (x - 1) h5]
    have : ¬ i = k := by omega
    simp [this]
theorem filter_first (p : Nat → Bool) (k : Nat) (hk : p k = true) (hlow : ∀ i, i < k → p i = false) : ∀ n, k < n → (List.range n).filter p = k :: (List.range n).filter fun i => p i && !decide (i = k)
  | 0, h => by omega
  | n + 1, h => by
    rw [List.range_succ, List.filter_append, List.filter_append]
    by_cases hkn : k < n
    · rw [filter_first p k hk hlow n hkn, List.cons_append]
      congr 2
      have : ¬ n = k := by omega
      simp [List.filter_cons, this]
    · have e : n = k := by omega
      subst e
      have h1 : (List.range n).filter p = [] := by
        rw [List.filter_eq_nil_iff]
        intro i hi
        rw [hlow i (List.mem_range.1 hi)]; simp
      have h2 : (List.range n).filter (fun i => p i && !decide (i = n)) = [] := by
        rw [List.filter_eq_nil_iff]
        intro i hi
        rw [hlow i (List.mem_range.1 hi)]; simp
      rw [h1, h2]
      simp [hk]
theorem bits_step (x : Nat) (h0 : x ≠ 0) (h : x < 18446744073709551616) : bitsOf x = Lib.ctz 64 x :: bitsOf (x &&& (x - 1)) := by
  obtain ⟨h1, h2, h3, h4⟩ := bits_facts x h0 h
  unfold bitsOf
  rw [filter_first (fun i => x.testBit i) _ h2 h3 64 h1]
  congr 1
  apply List.filter_congr
  intro i _
  exact (h4 i).symm
theorem bits_zero : bitsOf 0 = [] := by
  unfold bitsOf
  rw [List.filter_eq_nil_iff]
  simp
theorem and_lt (x : Nat) (h : x < 18446744073709551616) : x &&& (x - 1) < 18446744073709551616 := Nat.lt_of_le_of_lt Nat.and_le_left h
theorem and_less (x : Nat) (h0 : x ≠ 0) : x &&& (x - 1) < x := by
  have : x &&& (x - 1) ≤ x - 1 := Nat.and_le_right
  omega
/-- The places of a set's docs. -/
abbrev Pl (L : List Nat) := { d : Nat // d ∈ L }
def plV (L : List Nat) (x : Pl L) : Array Value := #[.int .i64 (x.1 : Int)]
def KTab (W W' : World) : Prop := Tab64 W → Tab64 W'
set_option maxRecDepth 100000 in
set_option maxHeartbeats 1000000 in
/-- What Places hands back, called. -/
theorem places1_in (n : Nat) (hn : 1 ≤ n) (l Bn s : Nat) (L : List Nat) (hL : L = bitsOf s) (hs : s < 18446744073709551616) (J Jx : List (Pl L) → World → Prop)
    (hY : ∀ pre x W, J pre W → pre.length < 64 → YieldAt Fence.wide (n - 1) Tryz.prog l (plV L x) W fun e W' => (e = .returned (.bool true) ∧ J (pre ++ [x]) W' ∧ KTab W W') ∨ (e = .returned (.bool false) ∧ Jx (pre ++ [x]) W'))
    (W : World) (hBn : W.cell? ⟨Bn, 0, none⟩ = some (.int .u64 (s : Int))) (hT : Tab64 W) (h0 : J [] W) :
    CallsIn Fence.wide n Tryz.prog 163 #[.func (.yield l) #[] #[], .pointer (some ⟨Bn, 0, none⟩)] W fun e W' => (∃ v, e = .returned v) ∧
      ((∃ ys : List (Pl L), ys.map Subtype.val = L ∧ J ys W') ∨ (∃ pre : List (Pl L), pre.map Subtype.val <+: L ∧ Jx pre W')) := by
  have hf1 : Fence.wide.fn 164 := trivial
  have HY := hide hY
  have HT := hide hT
  clear hY hT
  refine callsIn_of_wp Tryz.func163 rfl trivial ?_ rfl
  simp only [Tryz.ntmps163, List.size_toArray, List.length_cons, List.length_nil, Nat.reduceAdd, Nat.reduceSub, Array.replicate_succ, Array.replicate_zero, List.push_toArray, List.append_toArray, List.nil_append, List.cons_append]
  gi_wp2
  gi_loopw [3] (fun rv wr => ∃ (pre : List (Pl L)) (r : Nat), r < 18446744073709551616 ∧ rv = .int .u64 (r : Int) ∧ Hid (L = pre.map Subtype.val ++ bitsOf r) ∧ J pre wr ∧ Hid (Tab64 wr)) (fun rv _ => (intOf rv).toNat)
  case atStart => exact ⟨[], s, hs, rfl, by show _ = _; simpa using hL, h0, HT⟩
  case round =>
    obtain ⟨pre, r, hr, rfl, hb, hJ, hT1⟩ := hrel
    by_cases h0 : r = 0
    · subst h0
      gi_wp2
      go_end0
      refine ⟨⟨_, rfl⟩, .inl ⟨pre, ?_, hJ⟩⟩
      have := hb.out
      rw [bits_zero, List.append_nil] at this
      exact this.symm
    · have hne : ((r : Int) == 0) = false := by rw [beq_eq_false_iff_ne]; omega
      have hst := bits_step r h0 hr
      have hbo := hb.out
      rw [hst] at hbo
      have hlen : pre.length < 64 := by
        have h1 : L.length ≤ 64 := by
          rw [hL]
          have := List.length_filter_le (fun i => s.testBit i) (List.range 64)
          simpa [bitsOf] using this
        rw [hbo] at h1
        simp at h1
        omega
      have htz := tz_any r wr hr h0 hT1.out
      obtain ⟨k, hk⟩ : ∃ k, Lib.ctz 64 r = k := ⟨_, rfl⟩
      rw [hk] at hbo htz
      have hmem : k ∈ L := by rw [hbo]; simp
      obtain ⟨fn, tmps, assign, body, hy, hR⟩ := HY.out pre ⟨k, hmem⟩ wr hJ hlen
      simp only [plV] at hy
      have hsub : IntKind.u64.wrap ((r : Int) - 1) = ((r - 1 : Nat) : Int) := by
        have := wrap_u64 (r - 1) (by omega)
        rw [← this]; congr 1; omega
      have hand := u64_and_nat r (r - 1) hr (by omega)
      have HBO := hide hbo
      have HHR := hide hR
      clear hst hbo hk hL
      gi_wp2_with (gi_at_call 164; refine (callsIn_wide.2 htz).mono ?_; rintro e w' ⟨rfl, rfl⟩)
      refine HHR.out.mono ?_
      rintro e W3 (⟨rfl, hJ3, hk3⟩ | ⟨rfl, hJx3⟩)
      · gi_wp2
        go_roundw
        case rel => exact ⟨pre ++ [⟨k, hmem⟩], r &&& (r - 1), and_lt r hr, rfl, hide (HBO.out.trans (by simp)), hJ3, hide (hk3 hT1.out)⟩
        case measure =>
          have := and_less r h0
          simp [intOf]; omega
      · gi_wp2
        refine bodyPost_ret (results_none rfl _ _ _) rfl ?_
        exact ⟨⟨_, rfl⟩, .inr ⟨pre ++ [⟨k, hmem⟩], ⟨bitsOf (r &&& (r - 1)), by rw [List.map_append]; exact (HBO.out.trans (by simp)).symm⟩, hJx3⟩⟩
theorem u64_andNot_nat (a b : Nat) (ha : a < 18446744073709551616) (hb : b < 18446744073709551616) : bits .andNot .u64 (a : Int) (b : Int) = ((a &&& (18446744073709551615 - b) : Nat) : Int) := by
  have h1 : a &&& (18446744073709551615 - b) < 18446744073709551616 := Nat.lt_of_le_of_lt Nat.and_le_left ha
  show IntKind.u64.wrap ((BitVec.ofInt 64 (a : Int) &&& ~~~ BitVec.ofInt 64 (b : Int)).toNat : Int) = _
  rw [BitVec.toNat_and, BitVec.toNat_not, ofInt_u64 a ha, ofInt_u64 b hb]
  exact wrap_u64 _ h1
/-- Those of n docs that are not dead. -/
def aliveN (n dead : Nat) : Nat := (2 ^ n - 1) &&& (18446744073709551615 - dead)
theorem alive_lt (n dead : Nat) (hn : n ≤ 60) : aliveN n dead < 18446744073709551616 := by
  have h1 : 2 ^ n ≤ 2 ^ 60 := Nat.pow_le_pow_right (by omega) hn
  have h2 : aliveN n dead ≤ 2 ^ n - 1 := Nat.and_le_left
  omega
theorem alive_bit (n dead i : Nat) (hn : n ≤ 60) (hd : dead < 18446744073709551616) : (aliveN n dead).testBit i = (decide (i < n) && !dead.testBit i) := by
  unfold aliveN
  rw [Nat.testBit_and, Nat.testBit_two_pow_sub_one]
  by_cases hi : i < n
  · have : (18446744073709551615 - dead).testBit i = !dead.testBit i := by
      have := Nat.testBit_two_pow_sub_succ (x := dead) (n := 64) (by omega) i
      rw [show 2 ^ 64 - (dead + 1) = 18446744073709551615 - dead by omega] at this
      rw [this]
      simp; omega
    rw [this]
  · simp [hi]
theorem bits_alive (n dead : Nat) (hn : n ≤ 60) (hd : dead < 18446744073709551616) : bitsOf (aliveN n dead) = (List.range n).filter fun i => !dead.testBit i := by
  unfold bitsOf
  have e : ∀ m, n ≤ m → ((List.range m).filter fun i => (aliveN n dead).testBit i) = (List.range n).filter fun i => !dead.testBit i := by
    intro m hm
    induction m with
    | zero =>
      have : n = 0 := by omega
      subst this; rfl
    | succ m ih =>
      by_cases h : n ≤ m
      · rw [List.range_succ, List.filter_append, ih h]
        have : (aliveN n dead).testBit m = false := by
          rw [alive_bit n dead m hn hd]; simp; omega
        simp [this]
      · have : n = m + 1 := by omega
        subst this
        apply List.filter_congr
        intro i hi
        rw [alive_bit (m + 1) dead i hn hd]
        have := List.mem_range.1 hi
        simp [this]
  exact e 64 (by omega)
set_option maxHeartbeats 1000000 in
theorem places_any (s : Nat) (w : World) :
    Calls Tryz.prog 121 #[.int .u64 (s : Int)] w fun e w' => e = .returned (.func (.func 163) #[] #[.pointer (some ⟨w.heap.size, 0, none⟩)]) ∧ w' = w.alloc (.cells #[.int .u64 (s : Int)] 79) := by
  go_enter Tryz.func121, Tryz.ntmps121
  go_wp2_with fail
  go_ret
  exact ⟨rfl, rfl⟩
/-- What Places hands back. -/
theorem places_stops (n : Nat) (hn : 1 ≤ n) (Bn s : Nat) (L : List Nat) (hL : L = bitsOf s) (hs : s < 18446744073709551616) (w : World) (hB : Bn < w.heap.size) (hB0 : 1 < w.heap.size) (hc : w.cell? ⟨Bn, 0, none⟩ = some (.int .u64 (s : Int))) (hT : Tab64 w) :
    SeqStopsK Fence.wide n Tryz.prog 163 #[.pointer (some ⟨Bn, 0, none⟩)] (plV L) KTab (fun ys => ys.map Subtype.val = L) (fun pre => pre.map Subtype.val <+: L) 64 w := fun l J Jx W hW _ _ hY h0 =>
  places1_in n hn l Bn s L hL hs J Jx hY W ((hW.cell (p := ⟨Bn, 0, none⟩) hB).trans hc) (fun j hj => (hW.cell (p := ⟨1, j, none⟩) hB0).trans (hT j hj)) h0
theorem ktab_t {A B C : World} (h1 : KTab A B) (h2 : KTab B C) : KTab A C := fun h => h2 (h1 h)
theorem ktab_b {n : Nat} (hn : 1 < n) (W : World) (l : Nat) (o o' : Obj) (hl : n ≤ l) (ho : W.heap[l]? = some o) (h1 : o.isCells = false) (h2 : o.isWalk = false) : KTab W (W.putObj l o') := by
  intro hT j hj
  have : (W.putObj l o').heap[1]? = W.heap[1]? := by
    unfold World.putObj
    simp only
    rw [Array.getElem?_setIfInBounds_ne (by omega)]
  rw [World.cell?_of_block (w := W) (a := ⟨1, j, none⟩) this]
  exact hT j hj
end Go.Proofs.YtnffagpdnklnkaaGreatDoor.Pak
