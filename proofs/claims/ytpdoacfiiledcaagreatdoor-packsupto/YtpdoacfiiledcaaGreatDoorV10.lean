import Derived.Test.YtpdoacfiiledcaaGreatDoorV01
import Derived.OwnWalk

namespace Go.Proofs.YtpdoacfiiledcaaGreatDoor.Pak
open Go.RowKit Go.Proofs.YtpdoacfiiledcaaGreatDoor Go.Proofs.YtpdoacfiiledcaaGreatDoor.Spl SiftM
set_option linter.unusedVariables false

theorem small_lt : ∀ (f i n : Nat) (st : Option (List UInt8)), i + f ≤ 4 → n < 128 ^ i → (smallG f i n st).1 < 268435456
  | 0, i, n, st, h, hn => by simp [smallG]
  | f + 1, i, n, st, h, hn => by
    have hp : 128 ^ (i + 1) ≤ 128 ^ 4 := Nat.pow_le_pow_right (by omega) (by omega)
    have h256 : (nextF st).1.toNat < 256 := (nextF st).1.toNat_lt
    rw [smallG]
    split
    · rename_i hl
      have := Nat.mul_le_mul_right (128 ^ i) (show (nextF st).1.toNat ≤ 127 by omega)
      rw [Nat.pow_succ] at hp
      simp only; omega
    · refine small_lt f (i + 1) _ _ (by omega) ?_
      have := Nat.mul_le_mul_right (128 ^ i) (show (nextF st).1.toNat - 128 ≤ 127 by omega)
      rw [Nat.pow_succ]; omega

/-- A number that must be from lo to hi. -/
def numF (st : Option (List UInt8)) (lo hi : Int) : Nat × Option (List UInt8) :=
  if (smallG 4 0 0 st).2 = none ∨ ((smallG 4 0 0 st).1 : Int) < lo ∨ hi < ((smallG 4 0 0 st).1 : Int) then (0, none) else smallG 4 0 0 st
theorem numF_lt (st : Option (List UInt8)) (lo hi : Int) : (numF st lo hi).1 < 268435456 := by
  unfold numF; split
  · simp
  · exact small_lt 4 0 0 st (by omega) (by omega)

/-- A number of up to nine bytes that must be from lo to hi. -/
def numH (st : Option (List UInt8)) (lo hi : Int) : Nat × Option (List UInt8) :=
  if (smallG 9 0 0 st).2 = none ∨ ((smallG 9 0 0 st).1 : Int) < lo ∨ hi < ((smallG 9 0 0 st).1 : Int) then (0, none) else smallG 9 0 0 st
/-- What is read behind the first byte is no number, or is great. -/
theorem small_ge : ∀ (g i n : Nat) (st : Option (List UInt8)), 0 < i → (smallG g i n st).2 = none ∨ 128 ^ i ≤ (smallG g i n st).1
  | 0, i, n, st, h => .inl rfl
  | g + 1, i, n, st, h => by
    rw [smallG]
    split
    · by_cases hz : (nextF st).1 = 0
      · left; simp [hz, h]
      · right
        have h1 : 1 ≤ (nextF st).1.toNat := by
          have : (nextF st).1.toNat ≠ 0 := fun e => hz (UInt8.toNat_inj.1 (by simpa using e))
          omega
        have := Nat.mul_le_mul_right (128 ^ i) h1
        simp only; omega
    · rcases small_ge g (i + 1) (n + ((nextF st).1.toNat - 128) * 128 ^ i) (nextF st).2 (by omega) with e | e
      · exact .inl e
      · right
        have : 128 ^ i ≤ 128 ^ (i + 1) := Nat.pow_le_pow_right (by omega) (by omega)
        omega
theorem small_more (g : Nat) : ∀ (f i n : Nat) (st : Option (List UInt8)), 0 < i + f → smallG (f + g) i n st = smallG f i n st ∨ (smallG f i n st).2 = none ∧ ((smallG (f + g) i n st).2 = none ∨ 128 ^ (i + f) ≤ (smallG (f + g) i n st).1)
  | 0, i, n, st, h => by
    right
    refine ⟨rfl, ?_⟩
    rw [Nat.zero_add]
    exact small_ge g i n st (by omega)
  | f + 1, i, n, st, h => by
    rw [show f + 1 + g = (f + g) + 1 by omega, smallG, smallG]
    split
    · exact .inl rfl
    · have := small_more g f (i + 1) (n + ((nextF st).1.toNat - 128) * 128 ^ i) (nextF st).2 (by omega)
      rw [show i + (f + 1) = i + 1 + f by omega]
      exact this
theorem numH_numF (st : Option (List UInt8)) (lo hi : Int) (hh : hi < 268435456) : numH st lo hi = numF st lo hi := by
  unfold numH numF
  rcases small_more 5 4 0 0 st (by omega) with e | ⟨e1, e2⟩
  · rw [show 4 + 5 = 9 from rfl] at e
    rw [e]
  · rw [show 4 + 5 = 9 from rfl] at e2
    have h9 : (smallG 9 0 0 st).2 = none ∨ ((smallG 9 0 0 st).1 : Int) < lo ∨ hi < ((smallG 9 0 0 st).1 : Int) := by
      rcases e2 with e2 | e2
      · exact .inl e2
      · right; right
        rw [show 0 + 4 = 4 from rfl, show (128 : Nat) ^ 4 = 268435456 from rfl] at e2
        omega
    rw [if_pos h9, if_pos (.inl e1)]

set_option maxHeartbeats 400000 in
theorem number_any (R B : Nat) (st : Option (List UInt8)) (lo hi : Int) (w : World) (h : Rd w R B st) :
    Calls Tryz.prog 366 #[.pointer (some ⟨R, 0, none⟩), .int .i64 lo, .int .i64 hi] w fun e w' => e = .returned (.int .i64 (numH st lo hi).1) ∧ Rd w' R B (numH st lo hi).2 ∧ Kp [R] w w' := by
  obtain ⟨n, s, hs⟩ : ∃ n s, smallG 9 0 0 st = (n, s) := ⟨_, _, rfl⟩
  have hN := small_rd R B st w h
  obtain ⟨q, t, hqt⟩ : ∃ q t, numH st lo hi = (q, t) := ⟨_, _, rfl⟩
  rw [hqt]
  unfold numH at hqt
  rw [hs] at hN hqt
  have HQT := hide hqt
  have HD := hide h
  clear hs h hqt
  have HN := hide hN
  clear hN
  go_enter Tryz.func366, Tryz.ntmps366
  go_wp2_with fail
  refine HN.out.mono ?_
  rintro e w1 ⟨rfl, hr1, hk1⟩
  obtain ⟨x, y, hb⟩ := hr1.block
  have hy : y = .bool s.isNone := by
    cases s with
    | none => have e : some _ = some _ := hb.symm.trans hr1.2; simp at e; simp [e]
    | some l => obtain ⟨_, a, cap, e, _⟩ := hr1; have e := hb.symm.trans e; simp at e; simp [e]
  subst hy
  obtain ⟨c0, c1, f0, f1⟩ := rd_cells hb
  have HB := hide hb
  have HR := hide hr1
  clear hb hr1
  cases s with
  | none =>
    simp only [Option.isNone_none] at c1
    go_wp2_with fail
    refine (fail_any R B HR.out.le _ _ w1 HB.out).mono ?_
    rintro e w2 ⟨rfl, hr2, hk2⟩
    have HR2 := hide hr2
    clear hr2
    go_wp2_with fail
    go_ret
    have e := HQT.out
    rw [if_pos (by simp), Prod.mk.injEq] at e
    rw [← e.1, ← e.2]
    exact ⟨rfl, HR2.out, hk1.next hk2⟩
  | some l =>
    simp only [Option.isNone_some] at c1
    by_cases h1 : (n : Int) < lo
    · go_wp2_with fail
      refine (fail_any R B HR.out.le _ _ w1 HB.out).mono ?_
      rintro e w2 ⟨rfl, hr2, hk2⟩
      have HR2 := hide hr2
      clear hr2
      go_wp2_with fail
      go_ret
      have e := HQT.out
      rw [if_pos (Or.inr (Or.inl h1)), Prod.mk.injEq] at e
      rw [← e.1, ← e.2]
      exact ⟨rfl, HR2.out, hk1.next hk2⟩
    · by_cases h2 : hi < (n : Int)
      · go_wp2_with fail
        refine (fail_any R B HR.out.le _ _ w1 HB.out).mono ?_
        rintro e w2 ⟨rfl, hr2, hk2⟩
        have HR2 := hide hr2
        clear hr2
        go_wp2_with fail
        go_ret
        have e := HQT.out
        rw [if_pos (Or.inr (Or.inr h2)), Prod.mk.injEq] at e
        rw [← e.1, ← e.2]
        exact ⟨rfl, HR2.out, hk1.next hk2⟩
      · go_wp2_with fail
        go_ret
        have e := HQT.out
        rw [if_neg (by simp; omega), Prod.mk.injEq] at e
        rw [← e.1, ← e.2]
        exact ⟨rfl, HR.out, hk1⟩

theorem number_rd (R B : Nat) (st : Option (List UInt8)) (lo hi : Int) (w : World) (h : Rd w R B st) (hh : hi < 268435456) :
    Calls Tryz.prog 366 #[.pointer (some ⟨R, 0, none⟩), .int .i64 lo, .int .i64 hi] w fun e w' => e = .returned (.int .i64 (numF st lo hi).1) ∧ Rd w' R B (numF st lo hi).2 ∧ Kp [R] w w' := by
  rw [← numH_numF st lo hi hh]
  exact number_any R B st lo hi w h

/-- How far a rising list has come. -/
def Ri (w : World) (Q : Nat) (least : Nat) : Prop := w.heap[Q]? = some (.cells #[.int .i64 least] 452 (0, 0))
theorem ri_cell {w : World} {Q least : Nat} (h : Ri w Q least) : w.cell? ⟨Q, 0, none⟩ = some (.int .i64 least) ∧ w.frozen? ⟨Q, 0, none⟩ = false := by
  unfold Ri at h; simp [World.cell?, World.frozen?, h]
theorem ri_set {w : World} {Q least n : Nat} (h : Ri w Q least) : Ri (w.setCell ⟨Q, 0, none⟩ (.int .i64 n)) Q n := by
  have e := heap_setCell_same w Q 0 _ 452 (.int .i64 n) h
  show _ = _; rw [e]; rfl

set_option maxHeartbeats 400000 in
theorem behind_any (Q least gap : Nat) (w : World) (h : Ri w Q least) (h1 : least ≤ 1099511627776) (h2 : gap ≤ 1099511627776) :
    Calls Tryz.prog 447 #[.pointer (some ⟨Q, 0, none⟩), .int .i64 gap] w fun e w' => e = .returned (.int .i64 ((least + gap : Nat) : Int)) ∧ Ri w' Q (least + gap + 1) ∧ Kp [Q] w w' := by
  obtain ⟨c0, f0⟩ := ri_cell h
  have H := hide h
  clear h
  go_enter Tryz.func447, Tryz.ntmps447
  go_wp2_with fail
  go_ret
  exact ⟨ret_int (by omega), ri_set H.out, (Kp.refl _ _).setCell (.inl (by simp)) _⟩

set_option maxHeartbeats 400000 in
theorem entry_rd (R B Q : Nat) (st : Option (List UInt8)) (least : Nat) (most : Int) (w : World) (h : Rd w R B st) (hq : Ri w Q least) (hBQ : B ≤ Q) (h1 : least ≤ 1099511627776) (h2 : most ≤ 268435455) (h3 : -1099511627776 ≤ most) :
    Calls Tryz.prog 414 #[.pointer (some ⟨R, 0, none⟩), .pointer (some ⟨Q, 0, none⟩), .int .i64 most] w fun e w' =>
      e = .returned (.int .i64 ((least + (numF st 0 (most - least)).1 : Nat) : Int)) ∧ Rd w' R B (numF st 0 (most - least)).2 ∧ Ri w' Q (least + (numF st 0 (most - least)).1 + 1) ∧ Kp [R, Q] w w' := by
  obtain ⟨c0, f0⟩ := ri_cell hq
  obtain ⟨x, y, hb⟩ := h.block
  have hne : Q ≠ R := by
    rintro rfl
    unfold Ri at hq; rw [hb] at hq; simp at hq
  have hN := number_rd R B st 0 (most - least) w h (by omega)
  have hlt := numF_lt st 0 (most - least)
  obtain ⟨n, s, hs⟩ : ∃ n s, numF st 0 (most - least) = (n, s) := ⟨_, _, rfl⟩
  rw [hs] at hN hlt ⊢
  have HD := hide h
  have HQ := hide hq
  have HN := hide hN
  have HB := hide hb
  clear hs h hq hN hb
  simp only at hlt
  go_enter Tryz.func414, Tryz.ntmps414
  go_wp2_with fail
  refine HN.out.mono ?_
  rintro e w1 ⟨rfl, hr1, hk1⟩
  have hq1 : Ri w1 Q least := hk1.heap HQ.out (by simpa using hne)
  have HR1 := hide hr1
  have HQ1 := hide hq1
  clear hr1 hq1
  go_wp2_with fail
  refine (behind_any Q least n w1 HQ1.out h1 (by omega)).mono ?_
  rintro e w2 ⟨rfl, hq2, hk2⟩
  have HQ2 := hide hq2
  clear hq2
  go_wp2_with fail
  go_ret
  exact ⟨rfl, HR1.out.kp hk2 (by simpa using hne.symm) (by simpa using hBQ), HQ2.out, (hk1.mono (by simp)).next (hk2.mono (by simp))⟩
end Go.Proofs.YtpdoacfiiledcaaGreatDoor.Pak

namespace Go.Proofs.YtpdoacfiiledcaaGreatDoor.Pak
open Go.RowKit Go.Proofs.YtpdoacfiiledcaaGreatDoor Go.Proofs.YtpdoacfiiledcaaGreatDoor.Spl SiftM
set_option linter.unusedVariables false

set_option maxHeartbeats 400000 in
theorem done_rd (R B : Nat) (st : Option (List UInt8)) (w : World) (h : Rd w R B st) :
    Calls Tryz.prog 294 #[.pointer (some ⟨R, 0, none⟩)] w fun e w' => e = .returned (.bool (decide (st = some []))) ∧ w' = w := by
  cases st with
  | none =>
    obtain ⟨c0, c1, f0, f1⟩ := rd_cells h.2
    clear h
    go_enter Tryz.func294, Tryz.ntmps294
    go_wp2_with fail
    go_ret
    exact ⟨rfl, rfl⟩
  | some l =>
    obtain ⟨_, a, cap, hb, _⟩ := h
    obtain ⟨c0, c1, f0, f1⟩ := rd_cells hb
    clear hb
    have e : Hid ((((l.length : Nat) : Int) == 0) = decide (some l = some [])) := by
      show _ = _
      cases l with
      | nil => rfl
      | cons a r => simp; omega
    generalize hd : decide (some l = some []) = d at *
    have Hd := hide hd
    clear hd
    go_enter Tryz.func294, Tryz.ntmps294
    go_wp2_with fail
    go_ret
    exact ⟨ret_bool (by rw [← e.out]), rfl⟩

/-- What k rounds of a rising list give: the entries, how far it has come, what is left. -/
def riseN (most : Int) (st : Option (List UInt8)) : Nat → List Nat × Nat × Option (List UInt8)
  | 0 => ([], 0, st)
  | k + 1 => ((riseN most st k).1 ++ [(riseN most st k).2.1 + (numF (riseN most st k).2.2 0 (most - (riseN most st k).2.1)).1],
      (riseN most st k).2.1 + (numF (riseN most st k).2.2 0 (most - (riseN most st k).2.1)).1 + 1, (numF (riseN most st k).2.2 0 (most - (riseN most st k).2.1)).2)
theorem riseN_len (most : Int) (st : Option (List UInt8)) : ∀ k, (riseN most st k).1.length = k
  | 0 => rfl
  | k + 1 => by simp [riseN, riseN_len most st k]
theorem riseN_le (most : Int) (st : Option (List UInt8)) : ∀ k, (riseN most st k).2.1 ≤ k * 268435456
  | 0 => by simp [riseN]
  | k + 1 => by
    have h := riseN_le most st k
    have h2 := numF_lt (riseN most st k).2.2 0 (most - (riseN most st k).2.1)
    simp only [riseN]; omega

def intV (l : List Nat) : List Value := l.map fun (n : Nat) => Value.int .i64 (n : Int)
theorem intV_length (l : List Nat) : (intV l).length = l.length := by simp [intV]

theorem made_one (z : Value) (n : Nat) : madeCells #[z] n = Array.replicate n z := by
  apply Array.ext
  · simp [size_madeCells]
  · intro i h1 h2
    simp [madeCells]
    have : i % 1 = 0 := by omega
    simp [this]

theorem info3 : (Tryz.prog.info? 3).map (fun i => (i.zero, i.size, i.bytes)) = some (some (.int .i64 0), 1, 8) := by kernel_rfl
theorem make_ints (c : Nat) (w : World) (hc : c ≤ 2000000) : (Instr.makeSlice 24 (.int .i64 c) (.int .i64 c)).run Tryz.prog w = .ok (.slice (some ⟨w.heap.size, 0, none⟩) c c) (w.alloc (.cells (Array.replicate c (Value.int .i64 0)) 3)) := by
  obtain ⟨i0, hi, hz0, hz1, hz2⟩ := info_parts info3
  have := run_make (P := Tryz.prog) w 24 3 i0 (.int .i64 0) Tryz.underlying24 hi hz0 .i64 .i64 c c (by omega) (by omega) (by rw [hz2]; omega) (by omega)
  rw [hz1, Nat.mul_one] at this
  simp only [Int.toNat_natCast] at this
  rw [this, show (Value.int .i64 0).cells = #[.int .i64 0] from rfl, made_one]

/-- The list's block behind k rounds. -/
def part (l : List Nat) (c : Nat) : Array Value := (intV l ++ List.replicate (c - l.length) (Value.int .i64 0)).toArray
theorem part_set (l : List Nat) (c n : Nat) (h : l.length < c) : (part l c).setIfInBounds l.length (.int .i64 (n : Int)) = part (l ++ [n]) c := by
  unfold part
  rw [List.setIfInBounds_toArray]
  congr 1
  obtain ⟨d, hd⟩ : ∃ d, c - l.length = d + 1 := ⟨c - l.length - 1, by omega⟩
  rw [List.set_append_right _ _ (by rw [intV_length]; omega), intV_length, Nat.sub_self, hd, List.replicate_succ, List.set_cons_zero]
  rw [show c - (l ++ [n]).length = d by simp; omega]
  simp [intV]
theorem part_cell {w : World} {L c : Nat} {l : List Nat} (h : w.heap[L]? = some (.cells (part l c) 3 (0, 0))) (hl : l.length < c) : w.cell? ⟨L, l.length, none⟩ = some (.int .i64 0) ∧ w.frozen? ⟨L, l.length, none⟩ = false := by
  constructor
  · simp only [World.cell?, h]
    unfold part
    obtain ⟨d, hd⟩ : ∃ d, c - l.length = d + 1 := ⟨c - l.length - 1, by omega⟩
    rw [List.getElem?_toArray, List.getElem?_append_right (by rw [intV_length]; omega), intV_length, Nat.sub_self, hd]
    rfl
  · simp [World.frozen?, h]

set_option maxHeartbeats 2000000 in
theorem rising_rd (R B : Nat) (st : Option (List UInt8)) (count : Nat) (most : Int) (w : World) (h : Rd w R B st) (hc : count ≤ 4000) (h2 : most ≤ 2000000) (h3 : -2000000 ≤ most) (hBw : B ≤ w.heap.size) :
    Calls Tryz.prog 365 #[.pointer (some ⟨R, 0, none⟩), .int .i64 count, .int .i64 most] w fun e w' => ∃ v,
      e = .returned v ∧ w'.ownsRow w.heap.size 3 1 v count (intV (riseN most st count).1) ∧ Rd w' R B (riseN most st count).2.2 ∧ Kp [R] w w' := by
  have hmk := fun w' => make_ints count w' (by omega)
  obtain ⟨x, y, hb⟩ := h.block
  have hlt := heap_lt hb
  have H := hide h
  clear h hb
  go_enter Tryz.func365, Tryz.ntmps365
  go_wp2_with fail
  obtain ⟨W, hW⟩ : ∃ W, (w.alloc (.cells (Array.replicate count (Value.int .i64 0)) 3)).alloc (.cells #[.int .i64 0] 452) = W := ⟨_, rfl⟩
  rw [hW]
  have hL0 : W.heap[w.heap.size]? = some (.cells (part [] count) 3 (0, 0)) := by
    rw [← hW, Below.heap_alloc _ _ _ (by simp)]
    rw [heap_alloc_new]
    simp [part, intV]
  have hQ0 : Ri W (w.heap.size + 1) 0 := by
    rw [← hW]
    have := heap_alloc_new (w.alloc (.cells (Array.replicate count (Value.int .i64 0)) 3)) (.cells #[.int .i64 0] 452)
    simpa [Ri] using this
  have hK0 : Kp [R] w W := by rw [← hW]; exact ((Kp.refl _ _).alloc _).alloc _
  have hR0 : Rd W R B st := by
    have k0 : Kp [] w W := by rw [← hW]; exact ((Kp.refl _ _).alloc _).alloc _
    exact H.out.kp k0 (by simp) (by simp)
  have HL0 := hide hL0
  have HQ0 := hide hQ0
  have HR0 := hide hR0
  clear hL0 hQ0 hR0 hmk hW
  go_loopw [14] (fun iv wr => ∃ k : Nat, k ≤ count ∧ iv = .int .i64 k ∧ wr.heap[w.heap.size]? = some (.cells (part (riseN most st k).1 count) 3 (0, 0)) ∧ Ri wr (w.heap.size + 1) (riseN most st k).2.1 ∧ Rd wr R B (riseN most st k).2.2 ∧ Kp [R] w wr) (fun iv _ => count - (intOf iv).toNat)
  case atStart => exact ⟨0, by omega, rfl, HL0.out, HQ0.out, HR0.out, hK0⟩
  case round =>
    clear HL0 HQ0 HR0 hK0
    obtain ⟨k, hk, rfl, hL, hQ, hR, hK⟩ := hrel
    by_cases hlt2 : k < count
    · have hE := entry_rd R B (w.heap.size + 1) (riseN most st k).2.2 (riseN most st k).2.1 most wr hR hQ (by omega) (by have := riseN_le most st k; omega) (by omega) (by omega)
      have hres : Hid (riseN most st (k + 1) = _) := rfl
      have hlen := riseN_len most st k
      have hlt1 := numF_lt (riseN most st k).2.2 0 (most - (riseN most st k).2.1)
      have hle := riseN_le most st k
      have hd : riseN most st (k + 1) = ((riseN most st k).1 ++ [(riseN most st k).2.1 + (numF (riseN most st k).2.2 0 (most - (riseN most st k).2.1)).1], (riseN most st k).2.1 + (numF (riseN most st k).2.2 0 (most - (riseN most st k).2.1)).1 + 1, (numF (riseN most st k).2.2 0 (most - (riseN most st k).2.1)).2) := rfl
      obtain ⟨l, le, s, hrs⟩ : ∃ l le s, riseN most st k = (l, le, s) := ⟨_, _, _, rfl⟩
      rw [hrs] at hE hlen hlt1 hle hd hL hQ hR
      simp only at hE hlen hlt1 hle hd hL hQ hR
      obtain ⟨n, s', hns⟩ : ∃ n s', numF s 0 (most - le) = (n, s') := ⟨_, _, rfl⟩
      rw [hns] at hE hlt1 hd
      simp only at hE hlt1 hd
      have HE := hide hE
      have HD := hide hd
      have HL := hide hL
      have HR := hide hR
      have HQ := hide hQ
      clear hE hd hres hrs hns hL hR hQ
      have Hlen := hide hlen
      clear hlen
      go_wp2_with fail
      refine HE.out.mono ?_
      rintro e w1 ⟨rfl, hr1, hq1, hk1⟩
      have hne : R ≠ w.heap.size + 1 := by omega
      have hne2 : w.heap.size ∉ [R, w.heap.size + 1] := by simp; omega
      have hL1 := hk1.heap HL.out hne2
      have hcl := part_cell hL1 (by rw [Hlen.out]; exact hlt2)
      rw [Hlen.out] at hcl
      obtain ⟨hc1, hf1⟩ := hcl
      have HR1 := hide hr1
      have HQ1 := hide hq1
      have HL1 := hide hL1
      clear hr1 hq1 hL1
      go_wp2_with fail
      go_roundw
      case rel =>
        refine ⟨k + 1, by omega, by go_num, ?_, ?_, ?_, ?_⟩
        · rw [HD.out]
          have := heap_setCell_same w1 w.heap.size k _ 3 (.int .i64 ((le + n : Nat) : Int)) HL1.out
          have hp := part_set l count (le + n) (by rw [Hlen.out]; exact hlt2)
          rw [Hlen.out] at hp
          rw [hp] at this
          simpa using this
        · rw [HD.out]
          exact ((Kp.refl [w.heap.size] w1).setCell (.inl (by simp)) _).heap HQ1.out (by simp)
        · rw [HD.out]
          exact HR1.out.kp ((Kp.refl [w.heap.size] w1).setCell (.inl (by simp)) _) (by simp; omega) (by simpa using hBw)
        · exact (hK.trans hk1 (by simp)).setCell (.inr (by simp)) _
      case measure => simp [intOf]; omega
    · have e : k = count := by omega
      subst e
      have HL := hide hL
      have HR := hide hR
      clear hL hR hQ
      go_wp2_with fail
      go_ret
      have hlen := riseN_len most st k
      refine ⟨_, rfl, ⟨by rw [intV_length, hlen]; omega, .inr ⟨w.heap.size, k, _, rfl, Nat.le_refl _, HL.out, Nat.le_refl _, by unfold maxLen; omega, ?_, ?_⟩⟩, HR.out, hK⟩
      · simp [part, intV, hlen]
      · unfold part
        rw [hlen, Nat.sub_self]
        simp only [List.replicate_zero, List.append_nil]
        rw [List.take_of_length_le (by rw [intV_length, hlen]; omega)]
end Go.Proofs.YtpdoacfiiledcaaGreatDoor.Pak

namespace Go.Proofs.YtpdoacfiiledcaaGreatDoor.Pak
open Go.RowKit Go.Proofs.YtpdoacfiiledcaaGreatDoor Go.Proofs.YtpdoacfiiledcaaGreatDoor.Spl SiftM
set_option linter.unusedVariables false

def textF (st : Option (List UInt8)) (n : Nat) : List UInt8 × Option (List UInt8) :=
  match st with
  | none => ([], none)
  | some l => if l.length < n then ([], none) else (l.take n, some (l.drop n))

theorem conv_vw (w : World) (B : Nat) (a : Option Addr) (l : List UInt8) (h : Vw w B a l) (cap : Nat) :
    (convert 112 9 (.slice a l.length cap)).run Tryz.prog w = .ok (.string ⟨l.toArray⟩) w := by
  rcases h with ⟨rfl, rfl⟩ | ⟨g, off, rfl, hg, hc⟩
  · exact run_convert_bytes_nil (P := Tryz.prog) w 112 5 Tryz.underlying112 Tryz.underlying5 0 cap 9 Tryz.underlying9
  · have hb : Lib.Bytes w g off ⟨l.toArray⟩ := by
      intro i hi
      have hi' : i < l.length := by
        have h2 : i < l.toArray.size := hi
        simpa using h2
      rw [hc i hi']
      rfl
    exact Lib.run_convert_whole (P := Tryz.prog) w 112 5 9 Tryz.underlying112 Tryz.underlying5 Tryz.underlying9 g off ⟨l.toArray⟩ hb cap

set_option maxHeartbeats 400000 in
set_option maxRecDepth 100000 in
theorem text_rd (R B : Nat) (st : Option (List UInt8)) (n : Nat) (w : World) (h : Rd w R B st) (hn : n ≤ 2000000) :
    Calls Tryz.prog 363 #[.pointer (some ⟨R, 0, none⟩), .int .i64 n] w fun e w' => e = .returned (.string ⟨(textF st n).1.toArray⟩) ∧ Rd w' R B (textF st n).2 ∧ Kp [R] w w' := by
  match st, h with
  | none, h =>
    have hB := h.1
    obtain ⟨c0, c1, f0, f1⟩ := rd_cells h.2
    have H := hide h.2
    have HH := hide h
    clear h
    show Calls _ _ _ _ fun e w' => e = .returned (.string ⟨([] : List UInt8).toArray⟩) ∧ Rd w' R B none ∧ Kp [R] w w'
    by_cases h0 : 0 < n
    · go_enter Tryz.func363, Tryz.ntmps363
      go_wp2_with fail
      refine (fail_any R B hB _ _ w H.out).mono ?_
      rintro e w1 ⟨rfl, hr1, hk1⟩
      have HR1 := hide hr1
      clear hr1
      go_wp2_with fail
      go_ret
      exact ⟨rfl, HR1.out, hk1⟩
    · have : n = 0 := by omega
      subst this
      have hcv : ∀ w', (convert 112 9 (.slice none 0 0)).run Tryz.prog w' = .ok (.string ⟨#[]⟩) w' := fun w' => run_convert_bytes_nil (P := Tryz.prog) w' 112 5 Tryz.underlying112 Tryz.underlying5 0 0 9 Tryz.underlying9
      go_enter Tryz.func363, Tryz.ntmps363
      go_wp2_with fail
      go_ret
      refine ⟨rfl, ⟨hB, ?_⟩, (Kp.refl _ _).setCell (.inl (by simp)) _⟩
      have e1 := heap_setCell_same w R 0 _ 461 (.slice none 0 0) H.out
      rw [e1]; rfl
  | some l, h =>
    obtain ⟨hB, a, cap, hb, hv, hc1, hc2⟩ := h
    obtain ⟨c0, c1, f0, f1⟩ := rd_cells hb
    have H := hide hb
    have HV := hide hv
    clear hb hv
    by_cases hlt : l.length < n
    · have e : textF (some l) n = ([], none) := by simp [textF, hlt]
      rw [e]
      clear e
      go_enter Tryz.func363, Tryz.ntmps363
      go_wp2_with fail
      refine (fail_any R B hB _ _ w H.out).mono ?_
      rintro e w1 ⟨rfl, hr1, hk1⟩
      have HR1 := hide hr1
      clear hr1
      go_wp2_with fail
      go_ret
      exact ⟨rfl, HR1.out, hk1⟩
    · have e : textF (some l) n = (l.take n, some (l.drop n)) := by simp [textF, hlt]
      rw [e]
      clear e
      have hcv : (convert 112 9 (.slice a n cap)).run Tryz.prog w = .ok (.string ⟨(l.take n).toArray⟩) w := by
        have hv' : Vw w B a (l.take n) := by
          rcases HV.out with ⟨rfl, ha⟩ | ⟨g, off, ha, hg, hc⟩
          · exact .inl ⟨by simp, ha⟩
          · exact .inr ⟨g, off, ha, hg, fun j hj => by
              have hj' : j < l.length := by simp at hj; omega
              rw [hc j hj']; simp⟩
        have := conv_vw w B a (l.take n) hv' cap
        rw [List.length_take, Nat.min_eq_left (by omega)] at this
        exact this
      obtain ⟨m, hm⟩ : ∃ m, l.length = m := ⟨_, rfl⟩
      have Hm := hide hm
      rw [hm] at c0 hc1 hlt
      clear hm
      rcases HV.out with ⟨rfl, rfl⟩ | ⟨g, off, rfl, hg, hc⟩
      · have e0 : m = 0 := by have := Hm.out; simp at this; omega
        have e1 : n = 0 := by omega
        subst e0 e1
        go_enter Tryz.func363, Tryz.ntmps363
        go_wp2_with fail
        go_ret
        refine ⟨rfl, rd_put hB H.out rfl (.inl ⟨rfl, rfl⟩) (by simp) hc2, (Kp.refl _ _).setCell (.inl (by simp)) _⟩
      · have HC := hide hc
        clear hc
        go_enter Tryz.func363, Tryz.ntmps363
        go_wp2_with fail
        · go_ret
          have hl : l.length ≤ n := by have := Hm.out; omega
          refine ⟨rfl, rd_put hB H.out (by have := Hm.out; simp; omega) (.inr ⟨g, off, rfl, hg, fun j hj => by simp at hj; omega⟩) (by simp; omega) (by omega), (Kp.refl _ _).setCell (.inl (by simp)) _⟩
        · go_ret
          refine ⟨rfl, rd_put hB H.out (by have := Hm.out; simp; omega) (.inr ⟨g, off + n, rfl, hg, fun j hj => ?_⟩) (by have := Hm.out; simp; omega) (by omega), (Kp.refl _ _).setCell (.inl (by simp)) _⟩
          have hj' : n + j < l.length := by simp at hj; omega
          have := HC.out (n + j) hj'
          rw [← Nat.add_assoc] at this
          simpa using this
end Go.Proofs.YtpdoacfiiledcaaGreatDoor.Pak

namespace Go.Proofs.YtpdoacfiiledcaaGreatDoor.Pak
open Go.RowKit Go.Proofs.YtpdoacfiiledcaaGreatDoor Go.Proofs.YtpdoacfiiledcaaGreatDoor.Spl SiftM
set_option linter.unusedVariables false

def isWord (l : List UInt8) : Bool := decide (1 ≤ l.length) && decide (l.length ≤ 8) && l.all isSm

set_option maxHeartbeats 800000 in
set_option maxRecDepth 100000 in
theorem is_any (s : ByteArray) (w : World) (hs : s.size ≤ 2000000) :
    Calls Tryz.prog 416 #[.string s] w fun e w' => e = .returned (.bool (isWord s.data.toList)) ∧ w' = w := by
  have hsz : s.data.toList.length = s.size := by simp
  by_cases h1 : s.size < 1
  · have e : Hid (isWord s.data.toList = false) := by
      show _ = _; unfold isWord; rw [hsz]; simp; omega
    generalize isWord s.data.toList = r at *
    go_enter Tryz.func416, Tryz.ntmps416
    go_wp2_with fail
    go_ret
    exact ⟨ret_bool e.out.symm, rfl⟩
  · by_cases h2 : 8 < s.size
    · have e : Hid (isWord s.data.toList = false) := by
        show _ = _; unfold isWord; rw [hsz]; simp; omega
      generalize isWord s.data.toList = r at *
      go_enter Tryz.func416, Tryz.ntmps416
      go_wp2_with fail
      go_ret
      exact ⟨ret_bool e.out.symm, rfl⟩
    · have e : Hid (isWord s.data.toList = s.data.toList.all isSm) := by
        show _ = _; unfold isWord; rw [hsz]; simp; omega
      generalize isWord s.data.toList = r at *
      go_enter Tryz.func416, Tryz.ntmps416
      go_wp2_with fail
      go_loopw [14] (fun iv wr => ∃ k : Nat, k ≤ s.size ∧ iv = .int .i64 k ∧ (s.data.toList.take k).all isSm = true ∧ wr = w) (fun iv _ => s.size - (intOf iv).toNat)
      case atStart => exact ⟨0, by omega, rfl, by simp, rfl⟩
      case round =>
        obtain ⟨k, hk, rfl, ht, rfl⟩ := hrel
        by_cases hlt : k < s.size
        · have htk := hide (take_snoc s k hlt)
          have Ht := hide ht
          clear ht
          by_cases hsm : isSm s[k] = true
          · have hN := small_any s[k] wr
            rw [hsm] at hN
            have HN := hide hN
            have Hsm := hide hsm
            clear hN hsm
            go_wp2_with fail
            refine HN.out.mono ?_
            rintro e w1 ⟨rfl, rfl⟩
            go_wp2_with fail
            go_roundw
            case rel =>
              refine ⟨k + 1, by omega, by go_num, ?_, by trivial⟩
              rw [htk.out, List.all_append, Ht.out]; simp [Hsm.out]
            case measure => simp [intOf]; omega
          · have hsm' : isSm s[k] = false := by simpa using hsm
            have hN := small_any s[k] wr
            rw [hsm'] at hN
            have HN := hide hN
            have Hsm := hide hsm'
            clear hN hsm hsm'
            go_wp2_with fail
            refine HN.out.mono ?_
            rintro e w1 ⟨rfl, rfl⟩
            go_wp2_with fail
            go_ret
            refine ⟨ret_bool ?_, by trivial⟩
            rw [e.out]
            symm
            rw [List.all_eq_false]
            exact ⟨s[k], List.mem_of_mem_take (i := k + 1) (by rw [htk.out]; simp), by simp [Hsm.out]⟩
        · have ek : k = s.size := by omega
          subst ek
          have Ht := hide ht
          clear ht
          go_wp2_with fail
          go_ret
          refine ⟨ret_bool ?_, by trivial⟩
          rw [e.out]
          have := Ht.out
          rw [List.take_of_length_le (by rw [hsz]; omega)] at this
          exact this.symm
end Go.Proofs.YtpdoacfiiledcaaGreatDoor.Pak
