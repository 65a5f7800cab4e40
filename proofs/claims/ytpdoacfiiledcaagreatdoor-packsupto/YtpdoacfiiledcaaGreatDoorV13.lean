import Derived.Test.YtpdoacfiiledcaaGreatDoorV11
import Derived.Test.YtpdoacfiiledcaaGreatDoorV10
import Derived.Deep.RegionHeld3
import Derived.Stop.BytesEq

namespace Go.Proofs.YtpdoacfiiledcaaGreatDoor.Pak
open Go.RowKit Go.Proofs.YtpdoacfiiledcaaGreatDoor Go.Proofs.YtpdoacfiiledcaaGreatDoor.Spl SiftM
set_option linter.unusedVariables false

/-- The bytes of a small number. -/
def numG : Nat → Nat → List UInt8
  | 0, n => [UInt8.ofNat n]
  | f + 1, n => if n < 128 then [UInt8.ofNat n] else UInt8.ofNat (n % 128 + 128) :: numG f (n / 128)
def numB (n : Nat) : List UInt8 := numG 3 n
theorem numG_len : ∀ f n, (numG f n).length ≤ f + 1
  | 0, n => by simp [numG]
  | f + 1, n => by
    rw [numG]; split
    · simp
    · have := numG_len f (n / 128); simp; omega
theorem numG_low (f n : Nat) (h : n < 128) : numG f n = [UInt8.ofNat n] := by
  cases f with
  | zero => rfl
  | succ f => rw [numG, if_pos h]
theorem ofNat_toNat (n : Nat) (h : n < 256) : ((UInt8.ofNat n).toNat : Int) = (n : Int) := by rw [UInt8.toNat_ofNat']; omega

theorem one_new (w : World) (x : Value) (t : TypeId) : ∀ j u, [x][j]? = some u → (w.alloc (.cells #[x] t)).cell? ((⟨w.heap.size, 0, none⟩ : Addr).add j) = some u := by
  intro j u hj
  match j, hj with
  | 0, hj => simp at hj; subst hj; simp [Addr.add]
theorem one_cell (x : Int) (k : IntKind) : ∀ u ∈ [Value.int k x], u.oneCell' = true := by intro u hu; simp at hu; subst hu; rfl

set_option maxHeartbeats 800000 in
set_option maxRecDepth 100000 in
theorem wnum_any (W base : Nat) (l : List UInt8) (n : Nat) (w : World) (h : Wr w W base l) (hb : base ≤ w.heap.size) (hl : l.length ≤ 2000000) (hn : n < 268435456) :
    Calls Tryz.prog 264 #[.pointer (some ⟨W, 0, none⟩), .int .i64 n] w fun e w' => e = .returned (.tuple #[]) ∧ Wr w' W base (l ++ numB n) ∧ Kb 5 [W] base w w' := by
  obtain ⟨i0, hi, hz0, hz1, hz2⟩ := info_parts info5
  have HW := hide h
  clear h
  go_enter Tryz.func264, Tryz.ntmps264
  go_wp2_with fail
  go_loopw [1] (fun nv wr => ∃ (f m : Nat) (acc : List UInt8), f ≤ 3 ∧ m < 128 ^ (f + 1) ∧ nv = .int .i64 m ∧ acc ++ numG f m = l ++ numB n ∧ acc.length + f ≤ 2000004 ∧ base ≤ wr.heap.size ∧ Wr wr W base acc ∧ Kb 5 [W] base w wr) (fun nv _ => (intOf nv).toNat)
  case atStart => exact ⟨3, n, l, by omega, by omega, rfl, rfl, by omega, hb, HW.out, Kb.refl _ _ _ _⟩
  case round =>
    clear HW
    obtain ⟨f, m, acc, hf, hm, rfl, hacc, hlen, hbase, hwr, hkb⟩ := hrel
    have hm28 : m < 268435456 := by
      have : 128 ^ (f + 1) ≤ 128 ^ 4 := Nat.pow_le_pow_right (by omega) (by omega)
      omega
    obtain ⟨a, cap, h1, hown⟩ := wr_slice hwr
    obtain ⟨c0, f0⟩ := wr_cell h1
    have H1 := hide h1
    have hne := hide (owns_ne hown h1 (by decide))
    clear h1 hwr
    by_cases hlow : m < 128
    · have hd : Hid (l ++ numB n = acc ++ [UInt8.ofNat m]) := by
        show _ = _
        rw [← hacc, numG_low f m hlow]
      have Hm := hide hm
      clear hacc hm
      go_wp2_with (first
        | (at_builtin; refine wpList_append_own_at _ rfl _ _ 112 rfl base 5 i0 (.int .u8 0) 1 1 Tryz.underlying112 hi hz0 hz1 hz2 rfl (by decide) _ _ _ rfl (hown.alloc _) ⟨wr.heap.size, 0, none⟩ 1 1 [.int .u8 m] rfl rfl (one_new _ _ _) (one_cell _ _) ?c1 ?c2 ?c3 ?_)
        | fail)
      case c1 => unfold maxLen; omega
      case c2 => omega
      case c3 => simp; omega
      intro v' w2 hown2 hgrow _ _
      have hg2 := (World.grownBy_alloc wr (.cells #[.int .u8 (m : Int)] 5) (Value.slice a acc.length cap).ownBlock)
      have h2 : w2.heap[W]? = some (.cells #[.slice a acc.length cap] 365 (0, 0)) := by
        rw [hgrow.block W (by have := heap_lt H1.out; simp; omega) (fun e => hne.out e.symm), Below.heap_alloc _ _ _ (heap_lt H1.out)]; exact H1.out
      obtain ⟨c2, f2⟩ := wr_cell h2
      have H2 := hide h2
      obtain ⟨a', cap', rfl, _⟩ := owns_forms hown2
      clear h2 hg2
      go_wp2_with fail
      go_end0
      refine ⟨rfl, wr_put (w' := w2) H2.out ?_, ((hkb.alloc _).grown (hown.alloc _) hgrow).setW (.inl (by simp)) _⟩
      rw [hd.out, byV_append, List.length_append]
      simp only [byV, List.map_cons, List.map_nil, ofNat_toNat m (by omega)]
      exact hown2
    · obtain ⟨q, hq⟩ : ∃ q, m % 128 = q := ⟨_, rfl⟩
      obtain ⟨r, hr⟩ : ∃ r, m / 128 = r := ⟨_, rfl⟩
      have hA := i64_and127 (m : Int)
      rw [show ((m : Int) % 128) = (q : Int) by omega] at hA
      have hO := u8_or128_right (q : Int) (by omega) (by omega)
      have hS : ((m : Int) / 128) = (r : Int) := by omega
      have q128 : q < 128 := by omega
      have hf0 : f ≠ 0 := by rintro rfl; simp at hm; omega
      obtain ⟨f', rfl⟩ : ∃ f', f = f' + 1 := ⟨f - 1, by omega⟩
      have hd : Hid ((acc ++ [UInt8.ofNat (q + 128)]) ++ numG f' r = l ++ numB n) := by
        show _ = _
        rw [← hacc, numG, if_neg hlow, hq, hr]; simp
      have hr2 : Hid (r < 128 ^ (f' + 1)) := by
        show r < _
        rw [← hr]
        exact Nat.div_lt_of_lt_mul (by rw [Nat.pow_succ] at hm; omega)
      have hrm : r < m := by omega
      have Hm := hide hm
      clear hacc hm hq hr
      go_wp2_with (first
        | (at_builtin; refine wpList_append_own_at _ rfl _ _ 112 rfl base 5 i0 (.int .u8 0) 1 1 Tryz.underlying112 hi hz0 hz1 hz2 rfl (by decide) _ _ _ rfl (hown.alloc _) ⟨wr.heap.size, 0, none⟩ 1 1 [.int .u8 (q + 128)] rfl rfl (one_new _ _ _) (one_cell _ _) ?c1 ?c2 ?c3 ?_)
        | fail)
      case c1 => unfold maxLen; omega
      case c2 => omega
      case c3 => simp; omega
      intro v' w2 hown2 hgrow _ _
      have h2 : w2.heap[W]? = some (.cells #[.slice a acc.length cap] 365 (0, 0)) := by
        rw [hgrow.block W (by have := heap_lt H1.out; simp; omega) (fun e => hne.out e.symm), Below.heap_alloc _ _ _ (heap_lt H1.out)]; exact H1.out
      obtain ⟨c2, f2⟩ := wr_cell h2
      have H2 := hide h2
      obtain ⟨a', cap', rfl, _⟩ := owns_forms hown2
      have hz2' := hgrow.size
      simp at hz2'
      clear h2
      go_wp2_with fail
      go_roundw
      case rel =>
        refine ⟨f', r, acc ++ [UInt8.ofNat (q + 128)], by omega, hr2.out, by go_num, hd.out, by simp; omega, by simp [World.setCell]; omega, wr_put (w' := w2) H2.out ?_, ((hkb.alloc _).grown (hown.alloc _) hgrow).setW (.inl (by simp)) _⟩
        rw [byV_append, List.length_append]
        simp only [byV, List.map_cons, List.map_nil, ofNat_toNat (q + 128) (by omega)]
        exact hown2
      case measure => simp [intOf]; omega

set_option maxHeartbeats 400000 in
theorem gap_any (Q least entry : Nat) (w : World) (h : Ri w Q least) (h1 : least ≤ entry) (h2 : entry ≤ 1099511627776) :
    Calls Tryz.prog 413 #[.pointer (some ⟨Q, 0, none⟩), .int .i64 entry] w fun e w' => e = .returned (.int .i64 ((entry - least : Nat) : Int)) ∧ Ri w' Q (entry + 1) ∧ Kp [Q] w w' := by
  obtain ⟨c0, f0⟩ := ri_cell h
  have H := hide h
  clear h
  go_enter Tryz.func413, Tryz.ntmps413
  go_wp2_with fail
  go_ret
  exact ⟨ret_int (by omega), ri_set H.out, (Kp.refl _ _).setCell (.inl (by simp)) _⟩

theorem Wr.kp {S : List Nat} {w w' : World} {W base : Nat} {l : List UInt8} (h : Wr w W base l) (k : Kp S w w') (hW : W ∉ S) (hS : ∀ x ∈ S, ∀ cs fr, w.heap[x]? ≠ some (.cells cs 5 fr)) : Wr w' W base l := by
  obtain ⟨v, h1, h2⟩ := h
  refine ⟨v, k.heap h1 hW, k.owns h2 (fun g hg hx => ?_)⟩
  rcases h2.2 with ⟨rfl, _⟩ | ⟨g', cap, cur, rfl, hb, hgg, rest⟩
  · simp [Value.ownBlock] at hg
  · simp [Value.ownBlock] at hg
    subst hg
    exact hS _ hx _ _ hgg

set_option maxHeartbeats 400000 in
theorem wentry_any (W base Q least entry : Nat) (l : List UInt8) (w : World) (h : Wr w W base l) (hq : Ri w Q least) (hQW : Q ≠ W) (hb : base ≤ w.heap.size) (hl : l.length ≤ 2000000) (h1 : least ≤ entry) (h2 : entry < 268435456) :
    Calls Tryz.prog 359 #[.pointer (some ⟨W, 0, none⟩), .pointer (some ⟨Q, 0, none⟩), .int .i64 entry] w fun e w' => e = .returned (.tuple #[]) ∧ Wr w' W base (l ++ numB (entry - least)) ∧ Ri w' Q (entry + 1) ∧ Kb 5 [W, Q] base w w' := by
  have HW := hide h
  have HQ := hide hq
  clear h hq
  go_enter Tryz.func359, Tryz.ntmps359
  go_wp2_with fail
  refine (gap_any Q least entry w HQ.out h1 (by omega)).mono ?_
  rintro e w1 ⟨rfl, hq1, hk1⟩
  have hw1 : Wr w1 W base l := HW.out.kp hk1 (by simpa using hQW.symm) (by
    intro x hx cs fr e
    simp at hx; subst hx
    have := HQ.out
    unfold Ri at this
    rw [this] at e; simp at e)
  have HQ1 := hide hq1
  have HW1 := hide hw1
  have hz := hk1.size
  clear hq1 hw1
  go_wp2_with fail
  refine (wnum_any W base l (entry - least) w1 HW1.out (by omega) hl (by omega)).mono ?_
  rintro e w2 ⟨rfl, hw2, hk2⟩
  have HW2 := hide hw2
  clear hw2
  go_wp2_with fail
  go_end0
  exact ⟨rfl, HW2.out, hk2.heap (by simpa using hQW) HQ1.out (by decide), (Kb.of_kp hk1 (by simp)).next (hk2.mono (by simp))⟩

/-- The bytes of a rising list. -/
def riseB : Nat → List Nat → List UInt8
  | _, [] => []
  | least, x :: r => numB (x - least) ++ riseB (x + 1) r
def Rs : Nat → List Nat → Prop
  | _, [] => True
  | least, x :: r => least ≤ x ∧ Rs (x + 1) r
theorem riseB_len : ∀ (l : List Nat) (least : Nat), (riseB least l).length ≤ 4 * l.length
  | [], _ => by simp [riseB]
  | x :: r, least => by
    have := riseB_len r (x + 1)
    have h2 := numG_len 3 (x - least)
    simp [riseB, numB]; omega
/-- How far a rising list has come behind k entries. -/
def leastAt (l : List Nat) (k : Nat) : Nat := if k = 0 then 0 else l.getD (k - 1) 0 + 1
theorem rise_split : ∀ (l : List Nat) (least k : Nat) (hk : k < l.length), riseB least (l.take (k + 1)) = riseB least (l.take k) ++ numB (l[k] - (if k = 0 then least else l.getD (k - 1) 0 + 1))
  | x :: r, least, 0, hk => by simp [riseB]
  | x :: r, least, k + 1, hk => by
    have ih := rise_split r (x + 1) k (by simpa using hk)
    simp only [List.take_succ_cons, riseB]
    rw [ih]
    cases k with
    | zero => simp
    | succ k => simp
theorem rs_at : ∀ (l : List Nat) (least k : Nat) (hk : k < l.length), Rs least l → (if k = 0 then least else l.getD (k - 1) 0 + 1) ≤ l[k]
  | x :: r, least, 0, hk, h => by simpa using h.1
  | x :: r, least, k + 1, hk, h => by
    have ih := rs_at r (x + 1) k (by simpa using hk) h.2
    cases k with
    | zero => simpa using ih
    | succ k => simpa using ih

theorem ints_cells {w : World} {base n g cap : Nat} {l : List Nat} (h : w.ownsRow base 3 1 (.slice (some ⟨g, 0, none⟩) n cap) n (intV l)) (hl : l.length = n) : ∀ i (hi : i < l.length), w.cell? ⟨g, i, none⟩ = some (.int .i64 (l[i] : Int)) := by
  intro i hi
  have := h.cells (g := g) rfl i (.int .i64 (l[i] : Int)) (by simp [intV, hi])
  have e : (⟨g, 0, none⟩ : Addr).add i = ⟨g, i, none⟩ := by unfold Addr.add; split <;> simp_all
  rwa [e] at this

set_option maxHeartbeats 800000 in
set_option maxRecDepth 100000 in
theorem wrising_any (W base base' : Nat) (l : List UInt8) (v : Value) (xs : List Nat) (w : World) (h : Wr w W base l) (hv : w.ownsRow base' 3 1 v xs.length (intV xs)) (hb : base ≤ w.heap.size) (hl : l.length + 4 * xs.length ≤ 2000000) (hx : xs.length ≤ 4000) (hr : Rs 0 xs) (hbd : ∀ x ∈ xs, x < 268435456) :
    Calls Tryz.prog 285 #[.pointer (some ⟨W, 0, none⟩), v] w fun e w' => e = .returned (.tuple #[]) ∧ Wr w' W base (l ++ riseB 0 xs) ∧ Kb 5 [W] base w w' := by
  obtain ⟨a, cap, rfl, ha⟩ := owns_forms hv
  have hlt : W < w.heap.size := by obtain ⟨v0, hW0, _⟩ := h; exact heap_lt hW0
  have HW := hide h
  have HV := hide hv
  clear h hv
  go_enter Tryz.func285, Tryz.ntmps285
  go_wp2_with fail
  obtain ⟨W1, hW1⟩ : ∃ W1, w.alloc (.cells #[.int .i64 0] 452) = W1 := ⟨_, rfl⟩
  rw [hW1]
  have k0 : Kp [] w W1 := by rw [← hW1]; exact (Kp.refl _ _).alloc _
  have hz0 := k0.size
  have hq0 : Ri W1 w.heap.size 0 := by rw [← hW1]; exact heap_alloc_new w _
  have hw0 := HW.out.kp k0 (by simp) (by simp)
  have hv0 := k0.owns HV.out (by simp)
  have HW0 := hide hw0
  have HQ0 := hide hq0
  have HV0 := hide hv0
  have kb0 : Kb 5 [W] base w W1 := Kb.of_kp k0 (by simp)
  clear hw0 hq0 hv0 HW HV hW1 k0
  go_loopw [9] (fun iv wr => ∃ k : Nat, k ≤ xs.length ∧ iv = .int .i64 k ∧ Wr wr W base (l ++ riseB 0 (xs.take k)) ∧ Ri wr w.heap.size (if k = 0 then 0 else xs.getD (k - 1) 0 + 1) ∧ wr.ownsRow base' 3 1 (.slice a xs.length cap) xs.length (intV xs) ∧ base ≤ wr.heap.size ∧ Kb 5 [W] base w wr) (fun iv _ => xs.length - (intOf iv).toNat)
  case atStart => exact ⟨0, by omega, rfl, by simpa [riseB] using HW0.out, HQ0.out, HV0.out, by omega, kb0⟩
  case round =>
    clear HW0 HQ0 HV0 kb0
    obtain ⟨k, hk, rfl, hw1, hq1, hv1, hbase, hkb⟩ := hrel
    by_cases hlt2 : k < xs.length
    · obtain ⟨g, rfl⟩ := ha (by omega)
      have hc := ints_cells hv1 rfl k hlt2
      have hsp := hide (rise_split xs 0 k hlt2)
      have hat := rs_at xs 0 k hlt2 hr
      have hbx := hbd xs[k] (List.getElem_mem hlt2)
      have hlen := riseB_len (xs.take k) 0
      have HNE := hide (owns_ne hv1 hq1 (by decide))
      have HW := hide hw1
      have HQ := hide hq1
      have HV := hide hv1
      obtain ⟨x, hxE⟩ : ∃ x, xs[k] = x := ⟨_, rfl⟩
      obtain ⟨le, hle⟩ : ∃ le, (if k = 0 then 0 else xs.getD (k - 1) 0 + 1) = le := ⟨_, rfl⟩
      rw [hxE] at hc hat hbx hsp
      rw [hle] at hat HQ hsp
      have hnx : Hid ((if k + 1 = 0 then 0 else xs.getD (k + 1 - 1) 0 + 1) = x + 1) := by
        show _ = _
        simp [hlt2, hxE]
      clear hw1 hq1 hv1 hxE hle
      have Hlen : Hid ((l ++ riseB 0 (xs.take k)).length ≤ 2000000) := by
        show _ ≤ _
        have : (xs.take k).length ≤ xs.length := by simp; omega
        simp at hlen ⊢; omega
      go_wp2_with fail
      refine (wentry_any W base w.heap.size le x _ wr HW.out HQ.out (by omega) hbase Hlen.out hat hbx).mono ?_
      rintro e w2 ⟨rfl, hw2, hq2, hk2⟩
      have HW2 := hide hw2
      have HQ2 := hide hq2
      clear hw2 hq2
      have hsz := hk2.size
      go_wp2_with fail
      go_roundw
      case rel =>
        refine ⟨k + 1, by omega, by go_num, ?_, ?_, ?_, by omega, hkb.trans hk2 (by simp)⟩
        · rw [hsp.out, ← List.append_assoc]; exact HW2.out
        · rw [hnx.out]; exact HQ2.out
        · exact hk2.owns HV.out (by decide) (by
            intro y hy
            simp at hy
            rcases hy with rfl | rfl
            · obtain ⟨v0, h0, _⟩ := HW.out
              exact owns_ne HV.out h0 (by decide)
            · exact HNE.out)
      case measure => simp [intOf]; omega
    · have e : k = xs.length := by omega
      subst e
      have HW := hide hw1
      clear hw1 hq1 hv1
      go_wp2_with fail
      go_end0
      refine ⟨rfl, ?_, hkb⟩
      have := HW.out
      rwa [List.take_length] at this
end Go.Proofs.YtpdoacfiiledcaaGreatDoor.Pak

namespace Go.Proofs.YtpdoacfiiledcaaGreatDoor.Pak
open Go.RowKit Go.Proofs.YtpdoacfiiledcaaGreatDoor Go.Proofs.YtpdoacfiiledcaaGreatDoor.Spl SiftM
set_option linter.unusedVariables false

theorem vw_of_owns {w : World} {base n cap : Nat} {a : Option Addr} {l : List UInt8} (h : w.ownsRow base 5 1 (.slice a n cap) n (byV l)) (hl : l.length = n) : Vw w w.heap.size a l := by
  rcases h.2 with ⟨e, rfl⟩ | ⟨g, cap', cur, e, hb, hgg, rest⟩
  · simp at e
    exact .inl ⟨List.eq_nil_of_length_eq_zero hl, e.1⟩
  · simp at e
    obtain ⟨rfl, rfl⟩ := e
    refine .inr ⟨g, 0, rfl, heap_lt hgg, fun j hj => ?_⟩
    have := h.cells (g := g) rfl j (.int .u8 (l[j].toNat : Int)) (by simp [byV, hj])
    have e : (⟨g, 0, none⟩ : Addr).add j = ⟨g, j, none⟩ := by unfold Addr.add; split <;> simp_all
    rw [e] at this
    simpa using this

/-- The sum's two numbers behind some bytes. -/
def adl : List UInt8 → Nat × Nat → Nat × Nat
  | [], p => p
  | c :: r, p => adl r ((p.1 + c.toNat) % 65521, (p.2 + (p.1 + c.toNat) % 65521) % 65521)
def sumN (l : List UInt8) : List Nat := [(adl l (1, 0)).2 / 256, (adl l (1, 0)).2 % 256, (adl l (1, 0)).1 / 256, (adl l (1, 0)).1 % 256]
def sumB (l : List UInt8) : List UInt8 := (sumN l).map UInt8.ofNat
def sumA (l : List UInt8) : Value := .agg ((sumN l).map fun (n : Nat) => Value.int .u8 (n : Int)).toArray
theorem adl_lt : ∀ (l : List UInt8) (p : Nat × Nat), p.1 < 65521 → p.2 < 65521 → (adl l p).1 < 65521 ∧ (adl l p).2 < 65521
  | [], p, h1, h2 => ⟨h1, h2⟩
  | c :: r, p, h1, h2 => adl_lt r _ (Nat.mod_lt _ (by omega)) (Nat.mod_lt _ (by omega))
theorem adl_snoc : ∀ (l : List UInt8) (c : UInt8) (p : Nat × Nat), adl (l ++ [c]) p = (((adl l p).1 + c.toNat) % 65521, ((adl l p).2 + ((adl l p).1 + c.toNat) % 65521) % 65521)
  | [], c, p => rfl
  | d :: r, c, p => by rw [List.cons_append, adl, adl_snoc r c]; rfl
theorem take_snocL {α : Type} (l : List α) (k : Nat) (h : k < l.length) : l.take (k + 1) = l.take k ++ [l[k]] := by
  rw [List.take_add_one, List.getElem?_eq_getElem h]; rfl

set_option maxHeartbeats 800000 in
set_option maxRecDepth 100000 in
theorem sum_any (a : Option Addr) (cap : Nat) (l : List UInt8) (w : World) (hv : Vw w w.heap.size a l) (hl : l.length ≤ 4000000) :
    Calls Tryz.prog 350 #[.slice a l.length cap] w fun e w' => e = .returned (sumA l) ∧ Kp [] w w' := by
  have HV := hide hv
  clear hv
  go_enter Tryz.func350, Tryz.ntmps350
  go_wp2_with fail
  obtain ⟨W1, hW1⟩ : ∃ W1, w.alloc (.cells #[.int .u8 0, .int .u8 0, .int .u8 0, .int .u8 0] 447) = W1 := ⟨_, rfl⟩
  rw [hW1]
  have k0 : Kp [] w W1 := by rw [← hW1]; exact (Kp.refl _ _).alloc _
  have hb0 : W1.heap[w.heap.size]? = some (.cells #[.int .u8 0, .int .u8 0, .int .u8 0, .int .u8 0] 447 (0, 0)) := by rw [← hW1]; exact heap_alloc_new w _
  have HB0 := hide hb0
  have hv1 := vw_kp HV.out k0 (by simp)
  have HV1 := hide hv1
  clear hW1 hb0 hv1 HV
  go_loopw [3, 4, 9] (fun av bv iv wr => ∃ k : Nat, k ≤ l.length ∧ iv = .int .i64 k ∧ av = .int .i64 ((adl (l.take k) (1, 0)).1 : Nat) ∧ bv = .int .i64 ((adl (l.take k) (1, 0)).2 : Nat) ∧ wr = W1) (fun _ _ iv _ => l.length - (intOf iv).toNat)
  case atStart => exact ⟨0, by omega, rfl, rfl, rfl, rfl⟩
  case round =>
    obtain ⟨k, hk, rfl, rfl, rfl, rfl⟩ := hrel
    have hlt2 := adl_lt (l.take k) (1, 0) (by decide) (by decide)
    by_cases hlt : k < l.length
    · obtain ⟨g, off, rfl, hg, hc⟩ : ∃ g off, a = some ⟨g, off, none⟩ ∧ g < w.heap.size ∧ ∀ j (h : j < l.length), wr.cell? ⟨g, off + j, none⟩ = some (.int .u8 (l[j].toNat : Int)) := by
        rcases HV1.out with ⟨h, _⟩ | h
        · subst h; simp at hlt
        · exact h
      have hck := hc k hlt
      have hsn := hide (adl_snoc (l.take k) l[k] (1, 0))
      rw [← take_snocL l k hlt] at hsn
      have c256 : l[k].toNat < 256 := l[k].toNat_lt
      obtain ⟨x, hx⟩ : ∃ x, (adl (l.take k) (1, 0)).1 = x := ⟨_, rfl⟩
      obtain ⟨y, hy⟩ : ∃ y, (adl (l.take k) (1, 0)).2 = y := ⟨_, rfl⟩
      obtain ⟨c, hc'⟩ : ∃ c, l[k].toNat = c := ⟨_, rfl⟩
      rw [hx, hy, hc'] at hsn
      rw [hx, hy] at hlt2 ⊢
      rw [hc'] at hck c256
      obtain ⟨h1, h2⟩ := hlt2
      clear hc hx hy hc'
      go_wp2_with fail
      go_roundw
      case rel =>
        refine ⟨k + 1, by omega, by go_num, ?_, ?_, by trivial⟩
        · rw [hsn.out]; go_num
        · rw [hsn.out]; go_num
      case measure => simp [intOf]; omega
    · have e : k = l.length := by omega
      subst e
      rw [List.take_length] at hlt2 ⊢
      have hres : Hid (sumA l = .agg #[.int .u8 (((adl l (1, 0)).2 / 256 : Nat) : Int), .int .u8 (((adl l (1, 0)).2 % 256 : Nat) : Int), .int .u8 (((adl l (1, 0)).1 / 256 : Nat) : Int), .int .u8 (((adl l (1, 0)).1 % 256 : Nat) : Int)]) := rfl
      obtain ⟨x, hx⟩ : ∃ x, (adl l (1, 0)).1 = x := ⟨_, rfl⟩
      obtain ⟨y, hy⟩ : ∃ y, (adl l (1, 0)).2 = y := ⟨_, rfl⟩
      rw [hx, hy] at hlt2 hres ⊢
      obtain ⟨h1, h2⟩ := hlt2
      clear hx hy
      have hcell : ∀ j, j < 4 → wr.cell? ⟨w.heap.size, j, none⟩ = some (.int .u8 0) := by
        intro j hj
        have := HB0.out
        simp only [World.cell?, this]
        match j, hj with
        | 0, _ => rfl
        | 1, _ => rfl
        | 2, _ => rfl
        | 3, _ => rfl
      have hfz : ∀ j, wr.frozen? ⟨w.heap.size, j, none⟩ = false := fun j => by simp [World.frozen?, HB0.out]
      have c0 := hcell 0 (by omega)
      have c1 := hcell 1 (by omega)
      have c2 := hcell 2 (by omega)
      have c3 := hcell 3 (by omega)
      have f0 := hfz 0
      have f1 := hfz 1
      have f2 := hfz 2
      have f3 := hfz 3
      clear hcell hfz
      go_wp2_with fail
      refine bodyPost_ret (v := .agg #[.int .u8 ((y : Int) / 256), .int .u8 ((y : Int) % 256), .int .u8 ((x : Int) / 256), .int .u8 ((x : Int) % 256)]) (by simp [results, Tryz.results350, go_sem, c0, c1, c2, c3]) rfl ⟨?_, ?_⟩
      · rw [hres.out]; rfl
      · exact (((k0.setCell (.inr (by simp)) _).setCell (.inr (by simp)) _).setCell (.inr (by simp)) _).setCell (.inr (by simp)) _
end Go.Proofs.YtpdoacfiiledcaaGreatDoor.Pak

namespace Go.Proofs.YtpdoacfiiledcaaGreatDoor.Pak
open Go.RowKit Go.Proofs.YtpdoacfiiledcaaGreatDoor Go.Proofs.YtpdoacfiiledcaaGreatDoor.Spl SiftM
set_option linter.unusedVariables false

theorem make_bytes (c : Nat) (w : World) (hc : c ≤ 4000000) : (Instr.makeSlice 112 (.int .i64 0) (.int .i64 c)).run Tryz.prog w = .ok (.slice (some ⟨w.heap.size, 0, none⟩) 0 c) (w.alloc (.cells (Array.replicate c (Value.int .u8 0)) 5)) := by
  obtain ⟨i0, hi, hz0, hz1, hz2⟩ := info_parts info5
  have := run_make (P := Tryz.prog) w 112 5 i0 (.int .u8 0) Tryz.underlying112 hi hz0 .i64 .i64 0 c (by omega) (by omega) (by rw [hz2]; omega) (by omega)
  rw [hz1, Nat.mul_one] at this
  simp only [Int.toNat_natCast] at this
  rw [this, show (Value.int .u8 0).cells = #[.int .u8 0] from rfl, made_one]
  rfl
theorem sumB_V (l : List UInt8) : byV (sumB l) = (sumN l).map fun (n : Nat) => Value.int .u8 (n : Int) := by
  have h := adl_lt l (1, 0) (by decide) (by decide)
  simp only [byV, sumB, sumN, List.map_cons, List.map_nil]
  rw [ofNat_toNat _ (by omega), ofNat_toNat _ (by omega), ofNat_toNat _ (by omega), ofNat_toNat _ (by omega)]

set_option maxHeartbeats 800000 in
set_option maxRecDepth 100000 in
theorem sealed_any (W base : Nat) (l : List UInt8) (w : World) (h : Wr w W base l) (h0 : 0 < l.length) (hl : l.length ≤ 2000000) :
    Calls Tryz.prog 266 #[.pointer (some ⟨W, 0, none⟩)] w fun e w' => ∃ v, e = .returned v ∧ w'.ownsRow w.heap.size 5 1 v (l.length + 4) (byV (l ++ sumB l)) ∧ Kp [] w w' := by
  obtain ⟨i0, hi, hz0, hz1, hz2⟩ := info_parts info5
  obtain ⟨a, cap, h1, hown⟩ := wr_slice h
  obtain ⟨a', cap', e, hg⟩ := owns_forms hown
  simp at e
  obtain ⟨rfl, rfl⟩ := e
  obtain ⟨g, rfl⟩ := hg h0
  have hgl := hown.lt g rfl
  obtain ⟨c0, f0⟩ := wr_cell h1
  have hWl := heap_lt h1
  have H1 := hide h1
  have HO := hide hown
  have hne := owns_ne hown h1 (by decide)
  have hsum := hide (sum_any (some ⟨g, 0, none⟩) cap l w (vw_of_owns hown rfl) (by omega))
  have hsv := hide (sumB_V l)
  obtain ⟨s0, s1, s2, s3, hs⟩ : ∃ s0 s1 s2 s3, sumN l = [s0, s1, s2, s3] := ⟨_, _, _, _, rfl⟩
  have hsA : sumA l = .agg #[.int .u8 (s0 : Int), .int .u8 (s1 : Int), .int .u8 (s2 : Int), .int .u8 (s3 : Int)] := by unfold sumA; rw [hs]; rfl
  rw [hsA] at hsum
  rw [hs] at hsv
  clear h h1 hown hs hsA
  have hmk : ∀ w', (Instr.makeSlice 112 (.int .i64 0) (.int .i64 ((l.length : Int) + 4))).run Tryz.prog w' = .ok (.slice (some ⟨w'.heap.size, 0, none⟩) 0 (l.length + 4)) (w'.alloc (.cells (Array.replicate (l.length + 4) (Value.int .u8 0)) 5)) := fun w' => make_bytes (l.length + 4) w' (by omega)
  go_enter Tryz.func266, Tryz.ntmps266
  go_wp2_with fail
  refine hsum.out.mono ?_
  rintro e w1 ⟨rfl, hk1⟩
  have hW1 := hk1.heap H1.out (by simp)
  obtain ⟨c1, f1⟩ := wr_cell hW1
  have hz1' := hk1.size
  have ho1 := hk1.owns HO.out (by simp)
  have HO1 := hide ho1
  have hWl1 : W < w1.heap.size := by omega
  have hWne : W ≠ w1.heap.size := by omega
  have hWe : (W == w1.heap.size) = false := by simpa using hWne
  clear hW1 ho1 hsum c0 f0
  have hWl2 : W < w1.heap.size + 1 := by omega
  have hWl3 : W < w1.heap.size + 1 + 1 := by omega
  have hob := World.ownsRow_made (base := w.heap.size) (e := 5) (size := 1) (w1.alloc (.cells #[.int .u8 (s0 : Int), .int .u8 (s1 : Int), .int .u8 (s2 : Int), .int .u8 (s3 : Int)] 447)) (Array.replicate (l.length + 4) (Value.int .u8 0)) (l.length + 4) (by simp; omega) (by unfold maxLen; omega) (by simp)
  have hoc : ∀ j u, (byV l)[j]? = some u → ((w1.alloc (.cells #[.int .u8 (s0 : Int), .int .u8 (s1 : Int), .int .u8 (s2 : Int), .int .u8 (s3 : Int)] 447)).alloc (.cells (Array.replicate (l.length + 4) (Value.int .u8 0)) 5)).cell? ((⟨g, 0, none⟩ : Addr).add j) = some u := ((HO1.out.alloc _).alloc _).cells (g := g) rfl
  have h1c : ∀ u ∈ byV l, u.oneCell' = true := by intro u hu; simp [byV] at hu; obtain ⟨c, _, rfl⟩ := hu; rfl
  rw [World.size_alloc] at hob
  have HOB := hide hob
  have HOC := hide hoc
  have H1C := hide h1c
  clear hob hoc h1c
  go_wp2_with (first
    | (at_builtin; (refine wpList_append_own_at _ rfl _ _ 112 rfl w.heap.size 5 i0 (.int .u8 0) 1 1 Tryz.underlying112 hi hz0 hz1 hz2 rfl (by decide) _ _ _ rfl HOB.out ⟨g, 0, none⟩ l.length cap (byV l) rfl ?c0 HOC.out H1C.out ?c1 ?c2 ?c3 ?_))
    | fail)
  case c0 => simp [byV]
  case c1 => unfold maxLen; omega
  case c2 => omega
  case c3 => simp; omega
  intro v2 w2 hown2 hgrow2 _ _
  replace hown2 : w2.ownsRow w.heap.size 5 1 v2 l.length (byV l) := by simpa using hown2
  have hT2 : w2.heap[w1.heap.size]? = some (.cells #[.int .u8 (s0 : Int), .int .u8 (s1 : Int), .int .u8 (s2 : Int), .int .u8 (s3 : Int)] 447 (0, 0)) := by
    rw [hgrow2.block w1.heap.size (by simp; omega) (by simp [Value.ownBlock]), Below.heap_alloc _ _ _ (by simp)]
    exact heap_alloc_new w1 _
  have hcs : ∀ j u, [Value.int .u8 (s0 : Int), .int .u8 (s1 : Int), .int .u8 (s2 : Int), .int .u8 (s3 : Int)][j]? = some u → w2.cell? ((⟨w1.heap.size, 0, none⟩ : Addr).add j) = some u := by
    intro j u hu
    have e : (⟨w1.heap.size, 0, none⟩ : Addr).add j = ⟨w1.heap.size, j, none⟩ := by unfold Addr.add; split <;> simp_all
    rw [e]
    simp only [World.cell?, hT2]
    simpa using hu
  have h1d : ∀ u ∈ [Value.int .u8 (s0 : Int), .int .u8 (s1 : Int), .int .u8 (s2 : Int), .int .u8 (s3 : Int)], u.oneCell' = true := by
    intro u hu; simp at hu; rcases hu with rfl | rfl | rfl | rfl <;> rfl
  have hz2' := hgrow2.size
  simp at hz2'
  have k2 : Kp [] w w2 := ((hk1.alloc _).alloc _).grown hgrow2 (by intro k hk; simp [Value.ownBlock] at hk; right; omega)
  have HCS := hide hcs
  have H1D := hide h1d
  have HO2 := hide hown2
  obtain ⟨a2, cap2, rfl, _⟩ := owns_forms hown2
  clear hcs h1d hT2 hown2 hgrow2 HOB HOC H1C hmk
  go_wp2_with (first
    | (at_builtin; refine wpList_append_own_at _ rfl _ _ 112 rfl w.heap.size 5 i0 (.int .u8 0) 1 1 Tryz.underlying112 hi hz0 hz1 hz2 rfl (by decide) _ _ _ rfl HO2.out ⟨w1.heap.size, 0, none⟩ 4 4 [.int .u8 (s0 : Int), .int .u8 (s1 : Int), .int .u8 (s2 : Int), .int .u8 (s3 : Int)] rfl ?c0 HCS.out H1D.out ?c1 ?c2 ?c3 ?_)
    | fail)
  case c0 => rfl
  case c1 => unfold maxLen; omega
  case c2 => omega
  case c3 => omega
  intro v3 w3 hown3 hgrow3 _ _
  have HO3 := hide hown3
  obtain ⟨a3, cap3, rfl, _⟩ := owns_forms hown3
  clear hown3
  go_wp2_with fail
  go_ret
  refine ⟨_, rfl, ?_, k2.grown hgrow3 (fun k hk => .inr (HO2.out.lt k hk).1)⟩
  rw [byV_append, hsv.out]
  exact HO3.out
end Go.Proofs.YtpdoacfiiledcaaGreatDoor.Pak

namespace Go.Proofs.YtpdoacfiiledcaaGreatDoor.Pak
open Go.RowKit Go.Proofs.YtpdoacfiiledcaaGreatDoor Go.Proofs.YtpdoacfiiledcaaGreatDoor.Spl SiftM
set_option linter.unusedVariables false

def unsealF (l : List UInt8) : Option (List UInt8) :=
  if l.length < 4 then none else if sumB (l.take (l.length - 4)) = l.drop (l.length - 4) then some (l.take (l.length - 4)) else none

set_option maxHeartbeats 2000000 in
set_option maxRecDepth 100000 in
theorem unseal_short (a : Option Addr) (cap : Nat) (l : List UInt8) (w : World) (h4 : l.length < 4) :
    Calls Tryz.prog 292 #[.slice a l.length cap] w fun e w' => ∃ R, e = .returned (.pointer (some ⟨R, 0, none⟩)) ∧ Rd w' R w.heap.size none ∧ Kp [] w w' := by
  generalize l.length = n at *
  have hd : ((n : Int) - 4 < 0) := by omega
  have hd2 : decide ((n : Int) - 4 < 0) = true := by simpa using hd
  go_enter Tryz.func292, Tryz.ntmps292
  go_wp2_with fail
  go_region
  go_wp2_with fail
  go_ret
  refine ⟨_, rfl, ⟨Nat.le_refl _, heap_alloc_new w.drew _⟩, ((Kp.refl [] w).drewN 1).alloc _⟩

theorem arr_at (g o c : Nat) (w : World) : (Instr.arrayAt 447 (.slice (some ⟨g, o, none⟩) 4 c)).run Tryz.prog w = .ok (.pointer (some ⟨g, o, none⟩)) w := by
  simp [Instr.arrayAt, run_underlying Tryz.underlying447]

theorem size5 (w : World) : (sizeOf 5).run Tryz.prog w = .ok 1 w := by kernel_rfl
theorem slice_tail (g off n cap : Nat) (w : World) (h : n + 4 ≤ cap) : (Instr.slice 112 (.slice (some ⟨g, off, none⟩) (n + 4) cap) (some (.int .i64 (n : Int))) none none).run Tryz.prog w = .ok (.slice (some ⟨g, off + n, none⟩) 4 (cap - n)) w := by
  have ht' : Tryz.prog.underlying 112 = some (.slice (Tryz.prog.elem 112)) := by simp [Program.elem, Tryz.underlying112]
  have he : Tryz.prog.elem 112 = 5 := by simp [Program.elem, Tryz.underlying112]
  rw [run_slice_l w 112 _ _ _ ht' .i64 _ (by omega) (by omega), he, size5]
  have hne : ¬ cap = n := by omega
  by_cases h0 : n = 0
  · subst h0
    simp [Result.andThen, sliced, Addr.add, hne]
  · simp [Result.andThen, sliced, Addr.add, hne, h0]
theorem arr_eq (s0 s1 s2 s3 t0 t1 t2 t3 : UInt8) (w : World) : (Op.equalIn 10000 447 (.agg #[.int .u8 (s0.toNat : Int), .int .u8 (s1.toNat : Int), .int .u8 (s2.toNat : Int), .int .u8 (s3.toNat : Int)]) (.agg #[.int .u8 (t0.toNat : Int), .int .u8 (t1.toNat : Int), .int .u8 (t2.toNat : Int), .int .u8 (t3.toNat : Int)])).run Tryz.prog w = .ok ([s0, s1, s2, s3] == [t0, t1, t2, t3]) w :=
  run_equalIn_bytes (P := Tryz.prog) w 9998 447 5 4 Tryz.underlying447 Tryz.underlying5 size5 [s0, s1, s2, s3] [t0, t1, t2, t3] rfl rfl

set_option maxHeartbeats 2000000 in
set_option maxRecDepth 100000 in
theorem unseal_long (g off cap : Nat) (d : List UInt8) (t0 t1 t2 t3 : UInt8) (w : World) (hg : g < w.heap.size) (hc : ∀ j (hj : j < (d ++ [t0, t1, t2, t3]).length), w.cell? ⟨g, off + j, none⟩ = some (.int .u8 ((d ++ [t0, t1, t2, t3])[j].toNat : Int))) (hl : d.length ≤ 2000000) (hcap : d.length + 4 ≤ cap) (hcap2 : cap ≤ 9223372036854775807) :
    Calls Tryz.prog 292 #[.slice (some ⟨g, off, none⟩) (d.length + 4) cap] w fun e w' => ∃ R, e = .returned (.pointer (some ⟨R, 0, none⟩)) ∧ Rd w' R w.heap.size (if sumB d = [t0, t1, t2, t3] then some d else none) ∧ Kp [] w w' := by
  have hv : Vw w w.heap.size (some ⟨g, off, none⟩) d := .inr ⟨g, off, rfl, hg, fun j hj => by
    rw [hc j (by simp; omega)]
    rw [List.getElem_append_left hj]⟩
  have hc0 := hc d.length (by simp)
  have hc1 := hc (d.length + 1) (by simp)
  have hc2 := hc (d.length + 2) (by simp)
  have hc3 := hc (d.length + 3) (by simp)
  simp at hc0 hc1 hc2 hc3
  rw [← Nat.add_assoc] at hc1 hc2 hc3
  have hsum := hide (fun w' (h : Vw w' w'.heap.size (some ⟨g, off, none⟩) d) => sum_any (some ⟨g, off, none⟩) cap d w' h (by omega))
  obtain ⟨s0, s1, s2, s3, hs⟩ : ∃ s0 s1 s2 s3, sumB d = [s0, s1, s2, s3] := ⟨_, _, _, _, rfl⟩
  have hsA : sumA d = .agg #[.int .u8 (s0.toNat : Int), .int .u8 (s1.toNat : Int), .int .u8 (s2.toNat : Int), .int .u8 (s3.toNat : Int)] := by
    unfold sumA; rw [← sumB_V, hs]; rfl
  rw [hsA] at hsum
  rw [hs]
  have heq := fun w' => arr_eq s0 s1 s2 s3 t0 t1 t2 t3 w'
  obtain ⟨b, hb⟩ : ∃ b, ([s0, s1, s2, s3] == [t0, t1, t2, t3]) = b := ⟨_, rfl⟩
  rw [hb] at heq
  have HB : Hid ((if [s0, s1, s2, s3] = [t0, t1, t2, t3] then some d else none) = if b = true then some d else none) := by
    show _ = _
    rw [← hb]
    simp only [beq_iff_eq]
  obtain ⟨res, hres⟩ : ∃ res, (if [s0, s1, s2, s3] = [t0, t1, t2, t3] then some d else none) = res := ⟨_, rfl⟩
  rw [hres] at HB ⊢
  clear hres hb
  have HS := hide hs
  clear hs hsA
  obtain ⟨n, hn⟩ : ∃ n, d.length = n := ⟨_, rfl⟩
  rw [hn] at hc0 hc1 hc2 hc3 hsum hl hcap ⊢
  have HN := hide hn
  have hst := fun w' => slice_tail g off n cap w' hcap
  have harr := fun w' => arr_at g (off + n) (cap - n) w'
  have HVd : Hid (Vw w.drew w.drew.heap.size (some ⟨g, off, none⟩) d) := hv
  have HV := hide hv
  clear hc hv hn
  have hd : ¬ ((n : Int) < 0) := by omega
  have hd2 : decide ((n : Int) < 0) = false := by simp
  have hI1 : (0 : Int) ≤ (n : Int) := by omega
  have hI2 : (n : Int) ≤ (cap : Int) := by omega
  have hI3 : (n : Int) ≤ ((n + 4 : Nat) : Int) := by omega
  have hI4 : ((n + 4 : Nat) : Int) ≤ (cap : Int) := by omega
  have hI5 : n ≤ cap := by omega
  have hI6 : ¬ cap = n := by omega
  have hI7 : ¬ cap < n := by omega
  have hI8 : n ≤ n + 4 := by omega
  go_enter Tryz.func292, Tryz.ntmps292
  go_wp2_with fail
  go_region_held3 (fun w2 => w2.cell? ⟨g, off + n, none⟩ = some (.int .u8 (t0.toNat : Int)) ∧ w2.cell? ⟨g, off + n + 1, none⟩ = some (.int .u8 (t1.toNat : Int)) ∧ w2.cell? ⟨g, off + n + 2, none⟩ = some (.int .u8 (t2.toNat : Int)) ∧ w2.cell? ⟨g, off + n + 3, none⟩ = some (.int .u8 (t3.toNat : Int))) (first | (exact ⟨hk1.cellv hc0 (by simp), hk1.cellv hc1 (by simp), hk1.cellv hc2 (by simp), hk1.cellv hc3 (by simp)⟩) | go_keep)
    ((go_at_call 350; refine (hsum.out _ HVd.out).mono ?_; rintro e w1 ⟨rfl, hk1⟩))
  all_goals
    have kp : Kp [] w w1 := ⟨hk1.os, hk1.tape, hk1.output, hk1.size, hk1.block⟩
    have hsz := kp.size
    clear heq hk1
    cases b
    · go_wp2_with fail
      go_ret
      rw [HB.out]
      exact ⟨_, rfl, ⟨hsz, heap_alloc_new w1 _⟩, kp.alloc _⟩
    · go_wp2_with fail
      go_ret
      rw [HB.out]
      refine ⟨_, rfl, ⟨hsz, _, cap, ?_, vw_kp HV.out (kp.alloc _) (by simp), by rw [HN.out]; omega, by omega⟩, kp.alloc _⟩
      rw [HN.out]
      exact heap_alloc_new w1 _

/-- Unseal, at whatever bytes. -/
theorem unseal_any (a : Option Addr) (cap : Nat) (l : List UInt8) (w : World) (hv : Vw w w.heap.size a l) (hl : l.length ≤ 2000000) (hc : l.length ≤ cap) (hc2 : cap ≤ 9223372036854775807) :
    Calls Tryz.prog 292 #[.slice a l.length cap] w fun e w' => ∃ R, e = .returned (.pointer (some ⟨R, 0, none⟩)) ∧ Rd w' R w.heap.size (unsealF l) ∧ Kp [] w w' := by
  by_cases h4 : l.length < 4
  · have e : unsealF l = none := by unfold unsealF; rw [if_pos h4]
    rw [e]
    exact unseal_short a cap l w h4
  · rcases hv with ⟨rfl, _⟩ | ⟨g, off, rfl, hg, hcell⟩
    · simp at h4
    · have hd : (l.drop (l.length - 4)).length = 4 := by simp; omega
      obtain ⟨t0, t1, t2, t3, ht⟩ : ∃ t0 t1 t2 t3, l.drop (l.length - 4) = [t0, t1, t2, t3] := by
        match hm : l.drop (l.length - 4), hd with
        | [t0, t1, t2, t3], _ => exact ⟨t0, t1, t2, t3, rfl⟩
      have e : unsealF l = if sumB (l.take (l.length - 4)) = [t0, t1, t2, t3] then some (l.take (l.length - 4)) else none := by unfold unsealF; rw [if_neg h4, ht]
      rw [e]
      have hll : l = l.take (l.length - 4) ++ [t0, t1, t2, t3] := by rw [← ht, List.take_append_drop]
      have hlen : (l.take (l.length - 4)).length + 4 = l.length := by simp; omega
      have := unseal_long g off cap (l.take (l.length - 4)) t0 t1 t2 t3 w hg (by
        intro j hj
        have hj' : j < l.length := by rw [hll]; exact hj
        have h2 := hcell j hj'
        rw [h2]
        congr 3
        congr 1
        congr 1) (by omega) (by omega) hc2
      rw [hlen] at this
      exact this
end Go.Proofs.YtpdoacfiiledcaaGreatDoor.Pak
