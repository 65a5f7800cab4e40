import Derived.Test.YtpdoacfiiledcaaPakB
namespace Go.Proofs.Ytpdoacfiiledcaa.Pak
open Go.RowKit Go.Proofs.Ytpdoacfiiledcaa SiftM
set_option linter.unusedVariables false

theorem small_lt : ∀ (f i n : Nat) (st : Option (List UInt8)), i + f ≤ 4 → n < 128 ^ i → (smallG f i n st).1 < 268435456
  | 0, i, n, st, h, hn => by simp [smallG]
  | f + 1, i, n, st, h, hn => by
    have hp : 128 ^ (i + 1) ≤ 128 ^ 4 := Nat.pow_le_pow_right (by omega) (by omega)
    have h256 : (nextF st).1.toNat < 256 := (nextF st).1.toNat_lt
    rw [smallG]
    split
    · rename_i hl
      have := Nat.mul_le_mul_right (128 ^ i) (show (nextF st).1.toNat ≤ 127 by omega)
      rw [Nat.pow_succ] at hp
      simp only; omega
    · refine small_lt f (i + 1) _ _ (by omega) ?_
      have := Nat.mul_le_mul_right (128 ^ i) (show (nextF st).1.toNat - 128 ≤ 127 by omega)
      rw [Nat.pow_succ]; omega

/-- A number that must be from lo to hi. -/
def numF (st : Option (List UInt8)) (lo hi : Int) : Nat × Option (List UInt8) :=
  if (smallG 4 0 0 st).2 = none ∨ ((smallG 4 0 0 st).1 : Int) < lo ∨ hi < ((smallG 4 0 0 st).1 : Int) then (0, none) else smallG 4 0 0 st
theorem numF_lt (st : Option (List UInt8)) (lo hi : Int) : (numF st lo hi).1 < 268435456 := by
  unfold numF; split
  · simp
  · exact small_lt 4 0 0 st (by omega) (by omega)

/-- A number of up to nine bytes that must be from lo to hi. -/
def numH (st : Option (List UInt8)) (lo hi : Int) : Nat × Option (List UInt8) :=
  if (smallG 9 0 0 st).2 = none ∨ ((smallG 9 0 0 st).1 : Int) < lo ∨ hi < ((smallG 9 0 0 st).1 : Int) then (0, none) else smallG 9 0 0 st
/-- What is read behind the first byte is no number, or is great. -/
theorem small_ge : ∀ (g i n : Nat) (st : Option (List UInt8)), 0 < i → (smallG g i n st).2 = none ∨ 128 ^ i ≤ (smallG g i n st).1
  | 0, i, n, st, h => .inl rfl
  | g + 1, i, n, st, h => by
    rw [smallG]
    split
    · by_cases hz : (nextF st).1 = 0
      · left; simp [hz, h]
      · right
        have h1 : 1 ≤ (nextF st).1.toNat := by
          have : (nextF st).1.toNat ≠ 0 := fun e => hz (UInt8.toNat_inj.1 (by simpa using e))
          omega
        have := Nat.mul_le_mul_right (128 ^ i) h1
        simp only; omega
    · rcases small_ge g (i + 1) (n + ((nextF st).1.toNat - 128) * 128 ^ i) (nextF st).2 (by omega) with e | e
      · exact .inl e
      · right
        have : 128 ^ i ≤ 128 ^ (i + 1) := Nat.pow_le_pow_right (by omega) (by omega)
        omega
theorem small_more (g : Nat) : ∀ (f i n : Nat) (st : Option (List UInt8)), 0 < i + f → smallG (f + g) i n st = smallG f i n st ∨ (smallG f i n st).2 = none ∧ ((smallG (f + g) i n st).2 = none ∨ 128 ^ (i + f) ≤ (smallG (f + g) i n st).1)
  | 0, i, n, st, h => by
    right
    refine ⟨rfl, ?_⟩
    rw [Nat.zero_add]
    exact small_ge g i n st (by omega)
  | f + 1, i, n, st, h => by
    rw [show f + 1 + g = (f + g) + 1 by omega, smallG, smallG]
    split
    · exact .inl rfl
    · have := small_more g f (i + 1) (n + ((nextF st).1.toNat - 128) * 128 ^ i) (nextF st).2 (by omega)
      rw [show i + (f + 1) = i + 1 + f by omega]
      exact this
theorem numH_numF (st : Option (List UInt8)) (lo hi : Int) (hh : hi < 268435456) : numH st lo hi = numF st lo hi := by
  unfold numH numF
  rcases small_more 5 4 0 0 st (by omega) with e | ⟨e1, e2⟩
  · rw [show 4 + 5 = 9 from rfl] at e
    rw [e]
  · rw [show 4 + 5 = 9 from rfl] at e2
    have h9 : (smallG 9 0 0 st).2 = none ∨ ((smallG 9 0 0 st).1 : Int) < lo ∨ hi < ((smallG 9 0 0 st).1 : Int) := by
      rcases e2 with e2 | e2
      · exact .inl e2
      · right; right
        rw [show 0 + 4 = 4 from rfl, show (128 : Nat) ^ 4 = 268435456 from rfl] at e2
        omega
    rw [if_pos h9, if_pos (.inl e1)]

set_option maxHeartbeats 400000 in
theorem number_any (R B : Nat) (st : Option (List UInt8)) (lo hi : Int) (w : World) (h : Rd w R B st) :
    Calls Try.prog 55 #[.pointer (some ⟨R, 0, none⟩), .int .i64 lo, .int .i64 hi] w fun e w' => e = .returned (.int .i64 (numH st lo hi).1) ∧ Rd w' R B (numH st lo hi).2 ∧ Kp [R] w w' := by
  obtain ⟨n, s, hs⟩ : ∃ n s, smallG 9 0 0 st = (n, s) := ⟨_, _, rfl⟩
  have hN := small_rd R B st w h
  obtain ⟨q, t, hqt⟩ : ∃ q t, numH st lo hi = (q, t) := ⟨_, _, rfl⟩
  rw [hqt]
  unfold numH at hqt
  rw [hs] at hN hqt
  have HQT := hide hqt
  have HD := hide h
  clear hs h hqt
  have HN := hide hN
  clear hN
  go_enter Try.func55, Try.ntmps55
  go_wp2_with fail
  refine HN.out.mono ?_
  rintro e w1 ⟨rfl, hr1, hk1⟩
  obtain ⟨x, y, hb⟩ := hr1.block
  have hy : y = .bool s.isNone := by
    cases s with
    | none => have e : some _ = some _ := hb.symm.trans hr1.2; simp at e; simp [e]
    | some l => obtain ⟨_, a, cap, e, _⟩ := hr1; have e := hb.symm.trans e; simp at e; simp [e]
  subst hy
  obtain ⟨c0, c1, f0, f1⟩ := rd_cells hb
  have HB := hide hb
  have HR := hide hr1
  clear hb hr1
  cases s with
  | none =>
    simp only [Option.isNone_none] at c1
    go_wp2_with fail
    refine (fail_any R B HR.out.le _ _ w1 HB.out).mono ?_
    rintro e w2 ⟨rfl, hr2, hk2⟩
    have HR2 := hide hr2
    clear hr2
    go_wp2_with fail
    go_ret
    have e := HQT.out
    rw [if_pos (by simp), Prod.mk.injEq] at e
    rw [← e.1, ← e.2]
    exact ⟨rfl, HR2.out, hk1.next hk2⟩
  | some l =>
    simp only [Option.isNone_some] at c1
    by_cases h1 : (n : Int) < lo
    · go_wp2_with fail
      refine (fail_any R B HR.out.le _ _ w1 HB.out).mono ?_
      rintro e w2 ⟨rfl, hr2, hk2⟩
      have HR2 := hide hr2
      clear hr2
      go_wp2_with fail
      go_ret
      have e := HQT.out
      rw [if_pos (Or.inr (Or.inl h1)), Prod.mk.injEq] at e
      rw [← e.1, ← e.2]
      exact ⟨rfl, HR2.out, hk1.next hk2⟩
    · by_cases h2 : hi < (n : Int)
      · go_wp2_with fail
        refine (fail_any R B HR.out.le _ _ w1 HB.out).mono ?_
        rintro e w2 ⟨rfl, hr2, hk2⟩
        have HR2 := hide hr2
        clear hr2
        go_wp2_with fail
        go_ret
        have e := HQT.out
        rw [if_pos (Or.inr (Or.inr h2)), Prod.mk.injEq] at e
        rw [← e.1, ← e.2]
        exact ⟨rfl, HR2.out, hk1.next hk2⟩
      · go_wp2_with fail
        go_ret
        have e := HQT.out
        rw [if_neg (by simp; omega), Prod.mk.injEq] at e
        rw [← e.1, ← e.2]
        exact ⟨rfl, HR.out, hk1⟩

theorem number_rd (R B : Nat) (st : Option (List UInt8)) (lo hi : Int) (w : World) (h : Rd w R B st) (hh : hi < 268435456) :
    Calls Try.prog 55 #[.pointer (some ⟨R, 0, none⟩), .int .i64 lo, .int .i64 hi] w fun e w' => e = .returned (.int .i64 (numF st lo hi).1) ∧ Rd w' R B (numF st lo hi).2 ∧ Kp [R] w w' := by
  rw [← numH_numF st lo hi hh]
  exact number_any R B st lo hi w h

/-- How far a rising list has come. -/
def Ri (w : World) (Q : Nat) (least : Nat) : Prop := w.heap[Q]? = some (.cells #[.int .i64 least] 97 (0, 0))
theorem ri_cell {w : World} {Q least : Nat} (h : Ri w Q least) : w.cell? ⟨Q, 0, none⟩ = some (.int .i64 least) ∧ w.frozen? ⟨Q, 0, none⟩ = false := by
  unfold Ri at h; simp [World.cell?, World.frozen?, h]
theorem ri_set {w : World} {Q least n : Nat} (h : Ri w Q least) : Ri (w.setCell ⟨Q, 0, none⟩ (.int .i64 n)) Q n := by
  have e := heap_setCell_same w Q 0 _ 97 (.int .i64 n) h
  show _ = _; rw [e]; rfl

set_option maxHeartbeats 400000 in
theorem behind_any (Q least gap : Nat) (w : World) (h : Ri w Q least) (h1 : least ≤ 1099511627776) (h2 : gap ≤ 1099511627776) :
    Calls Try.prog 92 #[.pointer (some ⟨Q, 0, none⟩), .int .i64 gap] w fun e w' => e = .returned (.int .i64 ((least + gap : Nat) : Int)) ∧ Ri w' Q (least + gap + 1) ∧ Kp [Q] w w' := by
  obtain ⟨c0, f0⟩ := ri_cell h
  have H := hide h
  clear h
  go_enter Try.func92, Try.ntmps92
  go_wp2_with fail
  go_ret
  exact ⟨ret_int (by omega), ri_set H.out, (Kp.refl _ _).setCell (.inl (by simp)) _⟩

set_option maxHeartbeats 400000 in
theorem entry_rd (R B Q : Nat) (st : Option (List UInt8)) (least : Nat) (most : Int) (w : World) (h : Rd w R B st) (hq : Ri w Q least) (hBQ : B ≤ Q) (h1 : least ≤ 1099511627776) (h2 : most ≤ 268435455) (h3 : -1099511627776 ≤ most) :
    Calls Try.prog 73 #[.pointer (some ⟨R, 0, none⟩), .pointer (some ⟨Q, 0, none⟩), .int .i64 most] w fun e w' =>
      e = .returned (.int .i64 ((least + (numF st 0 (most - least)).1 : Nat) : Int)) ∧ Rd w' R B (numF st 0 (most - least)).2 ∧ Ri w' Q (least + (numF st 0 (most - least)).1 + 1) ∧ Kp [R, Q] w w' := by
  obtain ⟨c0, f0⟩ := ri_cell hq
  obtain ⟨x, y, hb⟩ := h.block
  have hne : Q ≠ R := by
    rintro rfl
    unfold Ri at hq; rw [hb] at hq; simp at hq
  have hN := number_rd R B st 0 (most - least) w h (by omega)
  have hlt := numF_lt st 0 (most - least)
  obtain ⟨n, s, hs⟩ : ∃ n s, numF st 0 (most - least) = (n, s) := ⟨_, _, rfl⟩
  rw [hs] at hN hlt ⊢
  have HD := hide h
  have HQ := hide hq
  have HN := hide hN
  have HB := hide hb
  clear hs h hq hN hb
  simp only at hlt
  go_enter Try.func73, Try.ntmps73
  go_wp2_with fail
  refine HN.out.mono ?_
  rintro e w1 ⟨rfl, hr1, hk1⟩
  have hq1 : Ri w1 Q least := hk1.heap HQ.out (by simpa using hne)
  have HR1 := hide hr1
  have HQ1 := hide hq1
  clear hr1 hq1
  go_wp2_with fail
  refine (behind_any Q least n w1 HQ1.out h1 (by omega)).mono ?_
  rintro e w2 ⟨rfl, hq2, hk2⟩
  have HQ2 := hide hq2
  clear hq2
  go_wp2_with fail
  go_ret
  exact ⟨rfl, HR1.out.kp hk2 (by simpa using hne.symm) (by simpa using hBQ), HQ2.out, (hk1.mono (by simp)).next (hk2.mono (by simp))⟩
end Go.Proofs.Ytpdoacfiiledcaa.Pak
