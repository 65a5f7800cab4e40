import Derived.Test.YtnffagpdnklnkaaGreatDoorV01
import Derived.OwnWalk
set_option linter.unusedVariables false
set_option linter.unusedSimpArgs false
set_option maxRecDepth 8000
namespace Go.Proofs.YtnffagpdnklnkaaGreatDoor.Pak
open Go.RowKit Go.Proofs.YtnffagpdnklnkaaGreatDoor Go.Proofs.YtnffagpdnklnkaaGreatDoor.Spl SiftM
set_option maxHeartbeats 400000 in
theorem done_rd (R B : Nat) (st : Option (List UInt8)) (w : World) (h : Rd w R B st) :
    Calls Tryz.prog 63 #[.pointer (some ⟨R, 0, none⟩)] w fun e w' => e = .returned (.bool (decide (st = some []))) ∧ w' = w := by
  cases st with
  | none =>
    obtain ⟨c0, c1, f0, f1⟩ := rd_cells h.2
    clear h
    go_enter Tryz.func63, Tryz.ntmps63
    go_wp2_with fail
    go_ret
    exact ⟨rfl, rfl⟩
  | some l =>
    obtain ⟨_, a, cap, hb, _⟩ := h
    obtain ⟨c0, c1, f0, f1⟩ := rd_cells hb
    clear hb
    have e : Hid ((((l.length : Nat) : Int) == 0) = decide (some l = some [])) := by
      show _ = _
      cases l with
      | nil => rfl
      | cons a r => simp; omega
    generalize hd : decide (some l = some []) = d at *
    have Hd := hide hd
    clear hd
    go_enter Tryz.func63, Tryz.ntmps63
    go_wp2_with fail
    go_ret
    exact ⟨ret_bool (by rw [← e.out]), rfl⟩

/-- What k rounds of a rising list give: the entries, how far it has come, what is left. -/
def riseN (most : Int) (st : Option (List UInt8)) : Nat → List Nat × Nat × Option (List UInt8)
  | 0 => ([], 0, st)
  | k + 1 => ((riseN most st k).1 ++ [(riseN most st k).2.1 + (numF (riseN most st k).2.2 0 (most - (riseN most st k).2.1)).1],
      (riseN most st k).2.1 + (numF (riseN most st k).2.2 0 (most - (riseN most st k).2.1)).1 + 1, (numF (riseN most st k).2.2 0 (most - (riseN most st k).2.1)).2)
theorem riseN_len (most : Int) (st : Option (List UInt8)) : ∀ k, (riseN most st k).1.length = k
  | 0 => rfl
  | k + 1 => by simp [riseN, riseN_len most st k]
theorem riseN_le (most : Int) (st : Option (List UInt8)) : ∀ k, (riseN most st k).2.1 ≤ k * 268435456
  | 0 => by simp [riseN]
  | k + 1 => by
    have h := riseN_le most st k
    have h2 := numF_lt (riseN most st k).2.2 0 (most - (riseN most st k).2.1)
    simp only [riseN]; omega

def intV (l : List Nat) : List Value := l.map fun (n : Nat) => Value.int .i64 (n : Int)
theorem intV_length (l : List Nat) : (intV l).length = l.length := by simp [intV]

theorem made_one (z : Value) (n : Nat) : madeCells #[z] n = Array.replicate n z := by
  apply Array.ext
  · simp [size_madeCells]
  · intro i h1 h2
    simp [madeCells]
    have : i % 1 = 0 := by omega
    simp [this]

theorem info3 : (Tryz.prog.info? 3).map (fun i => (i.zero, i.size, i.bytes)) = some (some (.int .i64 0), 1, 8) := by kernel_rfl
theorem make_ints (c : Nat) (w : World) (hc : c ≤ 2000000) : (Instr.makeSlice 59 (.int .i64 c) (.int .i64 c)).run Tryz.prog w = .ok (.slice (some ⟨w.heap.size, 0, none⟩) c c) (w.alloc (.cells (Array.replicate c (Value.int .i64 0)) 3)) := by
  obtain ⟨i0, hi, hz0, hz1, hz2⟩ := info_parts info3
  have := run_make (P := Tryz.prog) w 59 3 i0 (.int .i64 0) Tryz.underlying59 hi hz0 .i64 .i64 c c (by omega) (by omega) (by rw [hz2]; omega) (by omega)
  rw [hz1, Nat.mul_one] at this
  simp only [Int.toNat_natCast] at this
  rw [this, show (Value.int .i64 0).cells = #[.int .i64 0] from rfl, made_one]

/-- The list's block behind k rounds. -/
def part (l : List Nat) (c : Nat) : Array Value := (intV l ++ List.replicate (c - l.length) (Value.int .i64 0)).toArray
theorem part_set (l : List Nat) (c n : Nat) (h : l.length < c) : (part l c).setIfInBounds l.length (.int .i64 (n : Int)) = part (l ++ [n]) c := by
  unfold part
  rw [List.setIfInBounds_toArray]
  congr 1
  obtain ⟨d, hd⟩ : ∃ d, c - l.length = d + 1 := ⟨c - l.length - 1, by omega⟩
  rw [List.set_append_right _ _ (by rw [intV_length]; omega), intV_length, Nat.sub_self, hd, List.replicate_succ, List.set_cons_zero]
  rw [show c - (l ++ [n]).length = d by simp; omega]
  simp [intV]
theorem part_cell {w : World} {L c : Nat} {l : List Nat} (h : w.heap[L]? = some (.cells (part l c) 3 (0, 0))) (hl : l.length < c) : w.cell? ⟨L, l.length, none⟩ = some (.int .i64 0) ∧ w.frozen? ⟨L, l.length, none⟩ = false := by
  constructor
  · simp only [World.cell?, h]
    unfold part
    obtain ⟨d, hd⟩ : ∃ d, c - l.length = d + 1 := ⟨c - l.length - 1, by omega⟩
    rw [List.getElem?_toArray, List.getElem?_append_right (by rw [intV_length]; omega), intV_length, Nat.sub_self, hd]
    rfl
  · simp [World.frozen?, h]

set_option maxHeartbeats 2000000 in
theorem rising_rd (R B : Nat) (st : Option (List UInt8)) (count : Nat) (most : Int) (w : World) (h : Rd w R B st) (hc : count ≤ 4000) (h2 : most ≤ 2000000) (h3 : -2000000 ≤ most) (hBw : B ≤ w.heap.size) :
    Calls Tryz.prog 100 #[.pointer (some ⟨R, 0, none⟩), .int .i64 count, .int .i64 most] w fun e w' => ∃ v,
      e = .returned v ∧ w'.ownsRow w.heap.size 3 1 v count (intV (riseN most st count).1) ∧ Rd w' R B (riseN most st count).2.2 ∧ Kp [R] w w' := by
  have hmk := fun w' => make_ints count w' (by omega)
  obtain ⟨x, y, hb⟩ := h.block
  have hlt := heap_lt hb
  have H := hide h
  clear h hb
  go_enter Tryz.func100, Tryz.ntmps100
  go_wp2_with fail
  obtain ⟨W, hW⟩ : ∃ W, (w.alloc (.cells (Array.replicate count (Value.int .i64 0)) 3)).alloc (.cells #[.int .i64 0] 217) = W := ⟨_, rfl⟩
  rw [hW]
  have hL0 : W.heap[w.heap.size]? = some (.cells (part [] count) 3 (0, 0)) := by
    rw [← hW, Below.heap_alloc _ _ _ (by simp)]
    rw [heap_alloc_new]
    simp [part, intV]
  have hQ0 : Ri W (w.heap.size + 1) 0 := by
    rw [← hW]
    have := heap_alloc_new (w.alloc (.cells (Array.replicate count (Value.int .i64 0)) 3)) (.cells #[.int .i64 0] 217)
    simpa [Ri] using this
  have hK0 : Kp [R] w W := by rw [← hW]; exact ((Kp.refl _ _).alloc _).alloc _
  have hR0 : Rd W R B st := by
    have k0 : Kp [] w W := by rw [← hW]; exact ((Kp.refl _ _).alloc _).alloc _
    exact H.out.kp k0 (by simp) (by simp)
  have HL0 := hide hL0
  have HQ0 := hide hQ0
  have HR0 := hide hR0
  clear hL0 hQ0 hR0 hmk hW
  go_loopw [14] (fun iv wr => ∃ k : Nat, k ≤ count ∧ iv = .int .i64 k ∧ wr.heap[w.heap.size]? = some (.cells (part (riseN most st k).1 count) 3 (0, 0)) ∧ Ri wr (w.heap.size + 1) (riseN most st k).2.1 ∧ Rd wr R B (riseN most st k).2.2 ∧ Kp [R] w wr) (fun iv _ => count - (intOf iv).toNat)
  case atStart => exact ⟨0, by omega, rfl, HL0.out, HQ0.out, HR0.out, hK0⟩
  case round =>
    clear HL0 HQ0 HR0 hK0
    obtain ⟨k, hk, rfl, hL, hQ, hR, hK⟩ := hrel
    by_cases hlt2 : k < count
    · have hE := entry_rd R B (w.heap.size + 1) (riseN most st k).2.2 (riseN most st k).2.1 most wr hR hQ (by omega) (by have := riseN_le most st k; omega) (by omega) (by omega)
      have hres : Hid (riseN most st (k + 1) = _) := rfl
      have hlen := riseN_len most st k
      have hlt1 := numF_lt (riseN most st k).2.2 0 (most - (riseN most st k).2.1)
      have hle := riseN_le most st k
      have hd : riseN most st (k + 1) = ((riseN most st k).1 ++ [(riseN most st k).2.1 + (numF (riseN most st k).2.2 0 (most - (riseN most st k).2.1)).1], (riseN most st k).2.1 + (numF (riseN most st k).2.2 0 (most - (riseN most st k).2.1)).1 + 1, (numF (riseN most st k).2.2 0 (most - (riseN most st k).2.1)).2) := rfl
      obtain ⟨l, le, s, hrs⟩ : ∃ l le s, riseN most st k = (l, le, s) := ⟨_, _, _, rfl⟩
      rw [hrs] at hE hlen hlt1 hle hd hL hQ hR
      simp only at hE hlen hlt1 hle hd hL hQ hR
      obtain ⟨n, s', hns⟩ : ∃ n s', numF s 0 (most - le) = (n, s') := ⟨_, _, rfl⟩
      rw [hns] at hE hlt1 hd
      simp only at hE hlt1 hd
      have HE := hide hE
      have HD := hide hd
      have HL := hide hL
      have HR := hide hR
      have HQ := hide hQ
      clear hE hd hres hrs hns hL hR hQ
      have Hlen := hide hlen
      clear hlen
      go_wp2_with fail
      refine HE.out.mono ?_
      rintro e w1 ⟨rfl, hr1, hq1, hk1⟩
      have hne : R ≠ w.heap.size + 1 := by omega
      have hne2 : w.heap.size ∉ [R, w.heap.size + 1] := by simp; omega
      have hL1 := hk1.heap HL.out hne2
      have hcl := part_cell hL1 (by rw [Hlen.out]; exact hlt2)
      rw [Hlen.out] at hcl
      obtain ⟨hc1, hf1⟩ := hcl
      have HR1 := hide hr1
      have HQ1 := hide hq1
      have HL1 := hide hL1
      clear hr1 hq1 hL1
      go_wp2_with fail
      go_roundw
      case rel =>
        refine ⟨k + 1, by omega, by go_num, ?_, ?_, ?_, ?_⟩
        · rw [HD.out]
          have := heap_setCell_same w1 w.heap.size k _ 3 (.int .i64 ((le + n : Nat) : Int)) HL1.out
          have hp := part_set l count (le + n) (by rw [Hlen.out]; exact hlt2)
          rw [Hlen.out] at hp
          rw [hp] at this
          simpa using this
        · rw [HD.out]
          exact ((Kp.refl [w.heap.size] w1).setCell (.inl (by simp)) _).heap HQ1.out (by simp)
        · rw [HD.out]
          exact HR1.out.kp ((Kp.refl [w.heap.size] w1).setCell (.inl (by simp)) _) (by simp; omega) (by simpa using hBw)
        · exact (hK.trans hk1 (by simp)).setCell (.inr (by simp)) _
      case measure => simp [intOf]; omega
    · have e : k = count := by omega
      subst e
      have HL := hide hL
      have HR := hide hR
      clear hL hR hQ
      go_wp2_with fail
      go_ret
      have hlen := riseN_len most st k
      refine ⟨_, rfl, ⟨by rw [intV_length, hlen]; omega, .inr ⟨w.heap.size, k, _, rfl, Nat.le_refl _, HL.out, Nat.le_refl _, by unfold maxLen; omega, ?_, ?_⟩⟩, HR.out, hK⟩
      · simp [part, intV, hlen]
      · unfold part
        rw [hlen, Nat.sub_self]
        simp only [List.replicate_zero, List.append_nil]
        rw [List.take_of_length_le (by rw [intV_length, hlen]; omega)]
/-- The bytes of a small number. -/
def numG : Nat → Nat → List UInt8
  | 0, n => [UInt8.ofNat n]
  | f + 1, n => if n < 128 then [UInt8.ofNat n] else UInt8.ofNat (n % 128 + 128) :: numG f (n / 128)
def numB (n : Nat) : List UInt8 := numG 3 n
theorem numG_len : ∀ f n, (numG f n).length ≤ f + 1
  | 0, n => by simp [numG]
  | f + 1, n => by
    rw [numG]; split
    · simp
    · have := numG_len f (n / 128); simp; omega
theorem numG_low (f n : Nat) (h : n < 128) : numG f n = [UInt8.ofNat n] := by
  cases f with
  | zero => rfl
  | succ f => rw [numG, if_pos h]
theorem ofNat_toNat (n : Nat) (h : n < 256) : ((UInt8.ofNat n).toNat : Int) = (n : Int) := by rw [UInt8.toNat_ofNat']; omega

theorem one_new (w : World) (x : Value) (t : TypeId) : ∀ j u, [x][j]? = some u → (w.alloc (.cells #[x] t)).cell? ((⟨w.heap.size, 0, none⟩ : Addr).add j) = some u := by
  intro j u hj
  match j, hj with
  | 0, hj => simp at hj; subst hj; simp [Addr.add]
theorem one_cell (x : Int) (k : IntKind) : ∀ u ∈ [Value.int k x], u.oneCell' = true := by intro u hu; simp at hu; subst hu; rfl

set_option maxHeartbeats 800000 in
set_option maxRecDepth 100000 in
theorem wnum_any (W base : Nat) (l : List UInt8) (n : Nat) (w : World) (h : Wr w W base l) (hb : base ≤ w.heap.size) (hl : l.length ≤ 200000000) (hn : n < 268435456) :
    Calls Tryz.prog 78 #[.pointer (some ⟨W, 0, none⟩), .int .i64 n] w fun e w' => e = .returned (.tuple #[]) ∧ Wr w' W base (l ++ numB n) ∧ Kb 5 [W] base w w' := by
  obtain ⟨i0, hi, hz0, hz1, hz2⟩ := info_parts info5
  have HW := hide h
  clear h
  go_enter Tryz.func78, Tryz.ntmps78
  go_wp2_with fail
  go_loopw [1] (fun nv wr => ∃ (f m : Nat) (acc : List UInt8), f ≤ 3 ∧ m < 128 ^ (f + 1) ∧ nv = .int .i64 m ∧ acc ++ numG f m = l ++ numB n ∧ acc.length + f ≤ 200000004 ∧ base ≤ wr.heap.size ∧ Wr wr W base acc ∧ Kb 5 [W] base w wr) (fun nv _ => (intOf nv).toNat)
  case atStart => exact ⟨3, n, l, by omega, by omega, rfl, rfl, by omega, hb, HW.out, Kb.refl _ _ _ _⟩
  case round =>
    clear HW
    obtain ⟨f, m, acc, hf, hm, rfl, hacc, hlen, hbase, hwr, hkb⟩ := hrel
    have hm28 : m < 268435456 := by
      have : 128 ^ (f + 1) ≤ 128 ^ 4 := Nat.pow_le_pow_right (by omega) (by omega)
      omega
    obtain ⟨a, cap, h1, hown⟩ := wr_slice hwr
    obtain ⟨c0, f0⟩ := wr_cell h1
    have H1 := hide h1
    have hne := hide (owns_ne hown h1 (by decide))
    clear h1 hwr
    by_cases hlow : m < 128
    · have hd : Hid (l ++ numB n = acc ++ [UInt8.ofNat m]) := by
        show _ = _
        rw [← hacc, numG_low f m hlow]
      have Hm := hide hm
      clear hacc hm
      go_wp2_with (first
        | (at_builtin; refine wpList_append_own_at _ rfl _ _ 42 rfl base 5 i0 (.int .u8 0) 1 1 Tryz.underlying42 hi hz0 hz1 hz2 rfl (by decide) _ _ _ rfl (hown.alloc _) ⟨wr.heap.size, 0, none⟩ 1 1 [.int .u8 m] rfl rfl (one_new _ _ _) (one_cell _ _) ?c1 ?c2 ?c3 ?_)
        | fail)
      case c1 => unfold maxLen; omega
      case c2 => omega
      case c3 => simp; omega
      intro v' w2 hown2 hgrow _ _
      have hg2 := (World.grownBy_alloc wr (.cells #[.int .u8 (m : Int)] 5) (Value.slice a acc.length cap).ownBlock)
      have h2 : w2.heap[W]? = some (.cells #[.slice a acc.length cap] 146 (0, 0)) := by
        rw [hgrow.block W (by have := heap_lt H1.out; simp; omega) (fun e => hne.out e.symm), Below.heap_alloc _ _ _ (heap_lt H1.out)]; exact H1.out
      obtain ⟨c2, f2⟩ := wr_cell h2
      have H2 := hide h2
      obtain ⟨a', cap', rfl, _⟩ := owns_forms hown2
      clear h2 hg2
      go_wp2_with fail
      go_end0
      refine ⟨rfl, wr_put (w' := w2) H2.out ?_, ((hkb.alloc _).grown (hown.alloc _) hgrow).setW (.inl (by simp)) _⟩
      rw [hd.out, byV_append, List.length_append]
      simp only [byV, List.map_cons, List.map_nil, ofNat_toNat m (by omega)]
      exact hown2
    · obtain ⟨q, hq⟩ : ∃ q, m % 128 = q := ⟨_, rfl⟩
      obtain ⟨r, hr⟩ : ∃ r, m / 128 = r := ⟨_, rfl⟩
      have hA := i64_and127 (m : Int)
      rw [show ((m : Int) % 128) = (q : Int) by omega] at hA
      have hO := u8_or128_right (q : Int) (by omega) (by omega)
      have hS : ((m : Int) / 128) = (r : Int) := by omega
      have q128 : q < 128 := by omega
      have hf0 : f ≠ 0 := by rintro rfl; simp at hm; omega
      obtain ⟨f', rfl⟩ : ∃ f', f = f' + 1 := ⟨f - 1, by omega⟩
      have hd : Hid ((acc ++ [UInt8.ofNat (q + 128)]) ++ numG f' r = l ++ numB n) := by
        show _ = _
        rw [← hacc, numG, if_neg hlow, hq, hr]; simp
      have hr2 : Hid (r < 128 ^ (f' + 1)) := by
        show r < _
        rw [← hr]
        exact Nat.div_lt_of_lt_mul (by rw [Nat.pow_succ] at hm; omega)
      have hrm : r < m := by omega
      have Hm := hide hm
      clear hacc hm hq hr
      go_wp2_with (first
        | (at_builtin; refine wpList_append_own_at _ rfl _ _ 42 rfl base 5 i0 (.int .u8 0) 1 1 Tryz.underlying42 hi hz0 hz1 hz2 rfl (by decide) _ _ _ rfl (hown.alloc _) ⟨wr.heap.size, 0, none⟩ 1 1 [.int .u8 (q + 128)] rfl rfl (one_new _ _ _) (one_cell _ _) ?c1 ?c2 ?c3 ?_)
        | fail)
      case c1 => unfold maxLen; omega
      case c2 => omega
      case c3 => simp; omega
      intro v' w2 hown2 hgrow _ _
      have h2 : w2.heap[W]? = some (.cells #[.slice a acc.length cap] 146 (0, 0)) := by
        rw [hgrow.block W (by have := heap_lt H1.out; simp; omega) (fun e => hne.out e.symm), Below.heap_alloc _ _ _ (heap_lt H1.out)]; exact H1.out
      obtain ⟨c2, f2⟩ := wr_cell h2
      have H2 := hide h2
      obtain ⟨a', cap', rfl, _⟩ := owns_forms hown2
      have hz2' := hgrow.size
      simp at hz2'
      clear h2
      go_wp2_with fail
      go_roundw
      case rel =>
        refine ⟨f', r, acc ++ [UInt8.ofNat (q + 128)], by omega, hr2.out, by go_num, hd.out, by simp; omega, by simp [World.setCell]; omega, wr_put (w' := w2) H2.out ?_, ((hkb.alloc _).grown (hown.alloc _) hgrow).setW (.inl (by simp)) _⟩
        rw [byV_append, List.length_append]
        simp only [byV, List.map_cons, List.map_nil, ofNat_toNat (q + 128) (by omega)]
        exact hown2
      case measure => simp [intOf]; omega

set_option maxHeartbeats 400000 in
theorem gap_any (Q least entry : Nat) (w : World) (h : Ri w Q least) (h1 : least ≤ entry) (h2 : entry ≤ 1099511627776) :
    Calls Tryz.prog 198 #[.pointer (some ⟨Q, 0, none⟩), .int .i64 entry] w fun e w' => e = .returned (.int .i64 ((entry - least : Nat) : Int)) ∧ Ri w' Q (entry + 1) ∧ Kp [Q] w w' := by
  obtain ⟨c0, f0⟩ := ri_cell h
  have H := hide h
  clear h
  go_enter Tryz.func198, Tryz.ntmps198
  go_wp2_with fail
  go_ret
  exact ⟨ret_int (by omega), ri_set H.out, (Kp.refl _ _).setCell (.inl (by simp)) _⟩

theorem Wr.kp {S : List Nat} {w w' : World} {W base : Nat} {l : List UInt8} (h : Wr w W base l) (k : Kp S w w') (hW : W ∉ S) (hS : ∀ x ∈ S, ∀ cs fr, w.heap[x]? ≠ some (.cells cs 5 fr)) : Wr w' W base l := by
  obtain ⟨v, h1, h2⟩ := h
  refine ⟨v, k.heap h1 hW, k.owns h2 (fun g hg hx => ?_)⟩
  rcases h2.2 with ⟨rfl, _⟩ | ⟨g', cap, cur, rfl, hb, hgg, rest⟩
  · simp [Value.ownBlock] at hg
  · simp [Value.ownBlock] at hg
    subst hg
    exact hS _ hx _ _ hgg

set_option maxHeartbeats 400000 in
theorem wentry_any (W base Q least entry : Nat) (l : List UInt8) (w : World) (h : Wr w W base l) (hq : Ri w Q least) (hQW : Q ≠ W) (hb : base ≤ w.heap.size) (hl : l.length ≤ 2000000) (h1 : least ≤ entry) (h2 : entry < 268435456) :
    Calls Tryz.prog 167 #[.pointer (some ⟨W, 0, none⟩), .pointer (some ⟨Q, 0, none⟩), .int .i64 entry] w fun e w' => e = .returned (.tuple #[]) ∧ Wr w' W base (l ++ numB (entry - least)) ∧ Ri w' Q (entry + 1) ∧ Kb 5 [W, Q] base w w' := by
  have HW := hide h
  have HQ := hide hq
  clear h hq
  go_enter Tryz.func167, Tryz.ntmps167
  go_wp2_with fail
  refine (gap_any Q least entry w HQ.out h1 (by omega)).mono ?_
  rintro e w1 ⟨rfl, hq1, hk1⟩
  have hw1 : Wr w1 W base l := HW.out.kp hk1 (by simpa using hQW.symm) (by
    intro x hx cs fr e
    simp at hx; subst hx
    have := HQ.out
    unfold Ri at this
    rw [this] at e; simp at e)
  have HQ1 := hide hq1
  have HW1 := hide hw1
  have hz := hk1.size
  clear hq1 hw1
  go_wp2_with fail
  refine (wnum_any W base l (entry - least) w1 HW1.out (by omega) (by omega) (by omega)).mono ?_
  rintro e w2 ⟨rfl, hw2, hk2⟩
  have HW2 := hide hw2
  clear hw2
  go_wp2_with fail
  go_end0
  exact ⟨rfl, HW2.out, hk2.heap (by simpa using hQW) HQ1.out (by decide), (Kb.of_kp hk1 (by simp)).next (hk2.mono (by simp))⟩

/-- The bytes of a rising list. -/
def riseB : Nat → List Nat → List UInt8
  | _, [] => []
  | least, x :: r => numB (x - least) ++ riseB (x + 1) r
def Rs : Nat → List Nat → Prop
  | _, [] => True
  | least, x :: r => least ≤ x ∧ Rs (x + 1) r
theorem riseB_len : ∀ (l : List Nat) (least : Nat), (riseB least l).length ≤ 4 * l.length
  | [], _ => by simp [riseB]
  | x :: r, least => by
    have := riseB_len r (x + 1)
    have h2 := numG_len 3 (x - least)
    simp [riseB, numB]; omega
theorem rise_split : ∀ (l : List Nat) (least k : Nat) (hk : k < l.length), riseB least (l.take (k + 1)) = riseB least (l.take k) ++ numB (l[k] - (if k = 0 then least else l.getD (k - 1) 0 + 1))
  | x :: r, least, 0, hk => by simp [riseB]
  | x :: r, least, k + 1, hk => by
    have ih := rise_split r (x + 1) k (by simpa using hk)
    simp only [List.take_succ_cons, riseB]
    rw [ih]
    cases k with
    | zero => simp
    | succ k => simp
theorem rs_at : ∀ (l : List Nat) (least k : Nat) (hk : k < l.length), Rs least l → (if k = 0 then least else l.getD (k - 1) 0 + 1) ≤ l[k]
  | x :: r, least, 0, hk, h => by simpa using h.1
  | x :: r, least, k + 1, hk, h => by
    have ih := rs_at r (x + 1) k (by simpa using hk) h.2
    cases k with
    | zero => simpa using ih
    | succ k => simpa using ih

theorem ints_cells {w : World} {base n g cap : Nat} {l : List Nat} (h : w.ownsRow base 3 1 (.slice (some ⟨g, 0, none⟩) n cap) n (intV l)) (hl : l.length = n) : ∀ i (hi : i < l.length), w.cell? ⟨g, i, none⟩ = some (.int .i64 (l[i] : Int)) := by
  intro i hi
  have := h.cells (g := g) rfl i (.int .i64 (l[i] : Int)) (by simp [intV, hi])
  have e : (⟨g, 0, none⟩ : Addr).add i = ⟨g, i, none⟩ := by unfold Addr.add; split <;> simp_all
  rwa [e] at this

set_option maxHeartbeats 800000 in
set_option maxRecDepth 100000 in
theorem wrising_any (W base base' : Nat) (l : List UInt8) (v : Value) (xs : List Nat) (w : World) (h : Wr w W base l) (hv : w.ownsRow base' 3 1 v xs.length (intV xs)) (hb : base ≤ w.heap.size) (hl : l.length + 4 * xs.length ≤ 2000000) (hx : xs.length ≤ 4000) (hr : Rs 0 xs) (hbd : ∀ x ∈ xs, x < 268435456) :
    Calls Tryz.prog 126 #[.pointer (some ⟨W, 0, none⟩), v] w fun e w' => e = .returned (.tuple #[]) ∧ Wr w' W base (l ++ riseB 0 xs) ∧ Kb 5 [W] base w w' := by
  obtain ⟨a, cap, rfl, ha⟩ := owns_forms hv
  have hlt : W < w.heap.size := by obtain ⟨v0, hW0, _⟩ := h; exact heap_lt hW0
  have HW := hide h
  have HV := hide hv
  clear h hv
  go_enter Tryz.func126, Tryz.ntmps126
  go_wp2_with fail
  obtain ⟨W1, hW1⟩ : ∃ W1, w.alloc (.cells #[.int .i64 0] 217) = W1 := ⟨_, rfl⟩
  rw [hW1]
  have k0 : Kp [] w W1 := by rw [← hW1]; exact (Kp.refl _ _).alloc _
  have hz0 := k0.size
  have hq0 : Ri W1 w.heap.size 0 := by rw [← hW1]; exact heap_alloc_new w _
  have hw0 := HW.out.kp k0 (by simp) (by simp)
  have hv0 := k0.owns HV.out (by simp)
  have HW0 := hide hw0
  have HQ0 := hide hq0
  have HV0 := hide hv0
  have kb0 : Kb 5 [W] base w W1 := Kb.of_kp k0 (by simp)
  clear hw0 hq0 hv0 HW HV hW1 k0
  go_loopw [9] (fun iv wr => ∃ k : Nat, k ≤ xs.length ∧ iv = .int .i64 k ∧ Wr wr W base (l ++ riseB 0 (xs.take k)) ∧ Ri wr w.heap.size (if k = 0 then 0 else xs.getD (k - 1) 0 + 1) ∧ wr.ownsRow base' 3 1 (.slice a xs.length cap) xs.length (intV xs) ∧ base ≤ wr.heap.size ∧ Kb 5 [W] base w wr) (fun iv _ => xs.length - (intOf iv).toNat)
  case atStart => exact ⟨0, by omega, rfl, by simpa [riseB] using HW0.out, HQ0.out, HV0.out, by omega, kb0⟩
  case round =>
    clear HW0 HQ0 HV0 kb0
    obtain ⟨k, hk, rfl, hw1, hq1, hv1, hbase, hkb⟩ := hrel
    by_cases hlt2 : k < xs.length
    · obtain ⟨g, rfl⟩ := ha (by omega)
      have hc := ints_cells hv1 rfl k hlt2
      have hsp := hide (rise_split xs 0 k hlt2)
      have hat := rs_at xs 0 k hlt2 hr
      have hbx := hbd xs[k] (List.getElem_mem hlt2)
      have hlen := riseB_len (xs.take k) 0
      have HNE := hide (owns_ne hv1 hq1 (by decide))
      have HW := hide hw1
      have HQ := hide hq1
      have HV := hide hv1
      obtain ⟨x, hxE⟩ : ∃ x, xs[k] = x := ⟨_, rfl⟩
      obtain ⟨le, hle⟩ : ∃ le, (if k = 0 then 0 else xs.getD (k - 1) 0 + 1) = le := ⟨_, rfl⟩
      rw [hxE] at hc hat hbx hsp
      rw [hle] at hat HQ hsp
      have hnx : Hid ((if k + 1 = 0 then 0 else xs.getD (k + 1 - 1) 0 + 1) = x + 1) := by
        show _ = _
        simp [hlt2, hxE]
      clear hw1 hq1 hv1 hxE hle
      have Hlen : Hid ((l ++ riseB 0 (xs.take k)).length ≤ 2000000) := by
        show _ ≤ _
        have : (xs.take k).length ≤ xs.length := by simp; omega
        simp at hlen ⊢; omega
      go_wp2_with fail
      refine (wentry_any W base w.heap.size le x _ wr HW.out HQ.out (by omega) hbase Hlen.out hat hbx).mono ?_
      rintro e w2 ⟨rfl, hw2, hq2, hk2⟩
      have HW2 := hide hw2
      have HQ2 := hide hq2
      clear hw2 hq2
      have hsz := hk2.size
      go_wp2_with fail
      go_roundw
      case rel =>
        refine ⟨k + 1, by omega, by go_num, ?_, ?_, ?_, by omega, hkb.trans hk2 (by simp)⟩
        · rw [hsp.out, ← List.append_assoc]; exact HW2.out
        · rw [hnx.out]; exact HQ2.out
        · exact hk2.owns HV.out (by decide) (by
            intro y hy
            simp at hy
            rcases hy with rfl | rfl
            · obtain ⟨v0, h0, _⟩ := HW.out
              exact owns_ne HV.out h0 (by decide)
            · exact HNE.out)
      case measure => simp [intOf]; omega
    · have e : k = xs.length := by omega
      subst e
      have HW := hide hw1
      clear hw1 hq1 hv1
      go_wp2_with fail
      go_end0
      refine ⟨rfl, ?_, hkb⟩
      have := HW.out
      rwa [List.take_length] at this
theorem vw_of_owns {w : World} {base n cap : Nat} {a : Option Addr} {l : List UInt8} (h : w.ownsRow base 5 1 (.slice a n cap) n (byV l)) (hl : l.length = n) : Vw w w.heap.size a l := by
  rcases h.2 with ⟨e, rfl⟩ | ⟨g, cap', cur, e, hb, hgg, rest⟩
  · simp at e
    exact .inl ⟨List.eq_nil_of_length_eq_zero hl, e.1⟩
  · simp at e
    obtain ⟨rfl, rfl⟩ := e
    refine .inr ⟨g, 0, rfl, heap_lt hgg, fun j hj => ?_⟩
    have := h.cells (g := g) rfl j (.int .u8 (l[j].toNat : Int)) (by simp [byV, hj])
    have e : (⟨g, 0, none⟩ : Addr).add j = ⟨g, j, none⟩ := by unfold Addr.add; split <;> simp_all
    rw [e] at this
    simpa using this

/-- The sum's two numbers behind some bytes. -/
def adl : List UInt8 → Nat × Nat → Nat × Nat
  | [], p => p
  | c :: r, p => adl r ((p.1 + c.toNat) % 65521, (p.2 + (p.1 + c.toNat) % 65521) % 65521)
def sumN (l : List UInt8) : List Nat := [(adl l (1, 0)).2 / 256, (adl l (1, 0)).2 % 256, (adl l (1, 0)).1 / 256, (adl l (1, 0)).1 % 256]
def sumB (l : List UInt8) : List UInt8 := (sumN l).map UInt8.ofNat
def sumA (l : List UInt8) : Value := .agg ((sumN l).map fun (n : Nat) => Value.int .u8 (n : Int)).toArray
theorem adl_lt : ∀ (l : List UInt8) (p : Nat × Nat), p.1 < 65521 → p.2 < 65521 → (adl l p).1 < 65521 ∧ (adl l p).2 < 65521
  | [], p, h1, h2 => ⟨h1, h2⟩
  | c :: r, p, h1, h2 => adl_lt r _ (Nat.mod_lt _ (by omega)) (Nat.mod_lt _ (by omega))
theorem adl_snoc : ∀ (l : List UInt8) (c : UInt8) (p : Nat × Nat), adl (l ++ [c]) p = (((adl l p).1 + c.toNat) % 65521, ((adl l p).2 + ((adl l p).1 + c.toNat) % 65521) % 65521)
  | [], c, p => rfl
  | d :: r, c, p => by rw [List.cons_append, adl, adl_snoc r c]; rfl
theorem take_snocL {α : Type} (l : List α) (k : Nat) (h : k < l.length) : l.take (k + 1) = l.take k ++ [l[k]] := by
  rw [List.take_add_one, List.getElem?_eq_getElem h]; rfl

set_option maxHeartbeats 800000 in
set_option maxRecDepth 100000 in
theorem sum_any (a : Option Addr) (cap : Nat) (l : List UInt8) (w : World) (hv : Vw w w.heap.size a l) (hl : l.length ≤ 400000000) :
    Calls Tryz.prog 97 #[.slice a l.length cap] w fun e w' => e = .returned (sumA l) ∧ Kp [] w w' := by
  have HV := hide hv
  clear hv
  go_enter Tryz.func97, Tryz.ntmps97
  go_wp2_with fail
  obtain ⟨W1, hW1⟩ : ∃ W1, w.alloc (.cells #[.int .u8 0, .int .u8 0, .int .u8 0, .int .u8 0] 161) = W1 := ⟨_, rfl⟩
  rw [hW1]
  have k0 : Kp [] w W1 := by rw [← hW1]; exact (Kp.refl _ _).alloc _
  have hb0 : W1.heap[w.heap.size]? = some (.cells #[.int .u8 0, .int .u8 0, .int .u8 0, .int .u8 0] 161 (0, 0)) := by rw [← hW1]; exact heap_alloc_new w _
  have HB0 := hide hb0
  have hv1 := vw_kp HV.out k0 (by simp)
  have HV1 := hide hv1
  clear hW1 hb0 hv1 HV
  go_loopw [3, 4, 9] (fun av bv iv wr => ∃ k : Nat, k ≤ l.length ∧ iv = .int .i64 k ∧ av = .int .i64 ((adl (l.take k) (1, 0)).1 : Nat) ∧ bv = .int .i64 ((adl (l.take k) (1, 0)).2 : Nat) ∧ wr = W1) (fun _ _ iv _ => l.length - (intOf iv).toNat)
  case atStart => exact ⟨0, by omega, rfl, rfl, rfl, rfl⟩
  case round =>
    obtain ⟨k, hk, rfl, rfl, rfl, rfl⟩ := hrel
    have hlt2 := adl_lt (l.take k) (1, 0) (by decide) (by decide)
    by_cases hlt : k < l.length
    · obtain ⟨g, off, rfl, hg, hc⟩ : ∃ g off, a = some ⟨g, off, none⟩ ∧ g < w.heap.size ∧ ∀ j (h : j < l.length), wr.cell? ⟨g, off + j, none⟩ = some (.int .u8 (l[j].toNat : Int)) := by
        rcases HV1.out with ⟨h, _⟩ | h
        · subst h; simp at hlt
        · exact h
      have hck := hc k hlt
      have hsn := hide (adl_snoc (l.take k) l[k] (1, 0))
      rw [← take_snocL l k hlt] at hsn
      have c256 : l[k].toNat < 256 := l[k].toNat_lt
      obtain ⟨x, hx⟩ : ∃ x, (adl (l.take k) (1, 0)).1 = x := ⟨_, rfl⟩
      obtain ⟨y, hy⟩ : ∃ y, (adl (l.take k) (1, 0)).2 = y := ⟨_, rfl⟩
      obtain ⟨c, hc'⟩ : ∃ c, l[k].toNat = c := ⟨_, rfl⟩
      rw [hx, hy, hc'] at hsn
      rw [hx, hy] at hlt2 ⊢
      rw [hc'] at hck c256
      obtain ⟨h1, h2⟩ := hlt2
      clear hc hx hy hc'
      go_wp2_with fail
      go_roundw
      case rel =>
        refine ⟨k + 1, by omega, by go_num, ?_, ?_, by trivial⟩
        · rw [hsn.out]; go_num
        · rw [hsn.out]; go_num
      case measure => simp [intOf]; omega
    · have e : k = l.length := by omega
      subst e
      rw [List.take_length] at hlt2 ⊢
      have hres : Hid (sumA l = .agg #[.int .u8 (((adl l (1, 0)).2 / 256 : Nat) : Int), .int .u8 (((adl l (1, 0)).2 % 256 : Nat) : Int), .int .u8 (((adl l (1, 0)).1 / 256 : Nat) : Int), .int .u8 (((adl l (1, 0)).1 % 256 : Nat) : Int)]) := rfl
      obtain ⟨x, hx⟩ : ∃ x, (adl l (1, 0)).1 = x := ⟨_, rfl⟩
      obtain ⟨y, hy⟩ : ∃ y, (adl l (1, 0)).2 = y := ⟨_, rfl⟩
      rw [hx, hy] at hlt2 hres ⊢
      obtain ⟨h1, h2⟩ := hlt2
      clear hx hy
      have hcell : ∀ j, j < 4 → wr.cell? ⟨w.heap.size, j, none⟩ = some (.int .u8 0) := by
        intro j hj
        have := HB0.out
        simp only [World.cell?, this]
        match j, hj with
        | 0, _ => rfl
        | 1, _ => rfl
        | 2, _ => rfl
        | 3, _ => rfl
      have hfz : ∀ j, wr.frozen? ⟨w.heap.size, j, none⟩ = false := fun j => by simp [World.frozen?, HB0.out]
      have c0 := hcell 0 (by omega)
      have c1 := hcell 1 (by omega)
      have c2 := hcell 2 (by omega)
      have c3 := hcell 3 (by omega)
      have f0 := hfz 0
      have f1 := hfz 1
      have f2 := hfz 2
      have f3 := hfz 3
      clear hcell hfz
      go_wp2_with fail
      refine bodyPost_ret (v := .agg #[.int .u8 ((y : Int) / 256), .int .u8 ((y : Int) % 256), .int .u8 ((x : Int) / 256), .int .u8 ((x : Int) % 256)]) (by simp [results, Tryz.results97, go_sem, c0, c1, c2, c3]) rfl ⟨?_, ?_⟩
      · rw [hres.out]; rfl
      · exact (((k0.setCell (.inr (by simp)) _).setCell (.inr (by simp)) _).setCell (.inr (by simp)) _).setCell (.inr (by simp)) _
theorem make_bytes (c : Nat) (w : World) (hc : c ≤ 400000000) : (Instr.makeSlice 42 (.int .i64 0) (.int .i64 c)).run Tryz.prog w = .ok (.slice (some ⟨w.heap.size, 0, none⟩) 0 c) (w.alloc (.cells (Array.replicate c (Value.int .u8 0)) 5)) := by
  obtain ⟨i0, hi, hz0, hz1, hz2⟩ := info_parts info5
  have := run_make (P := Tryz.prog) w 42 5 i0 (.int .u8 0) Tryz.underlying42 hi hz0 .i64 .i64 0 c (by omega) (by omega) (by rw [hz2]; omega) (by omega)
  rw [hz1, Nat.mul_one] at this
  simp only [Int.toNat_natCast] at this
  rw [this, show (Value.int .u8 0).cells = #[.int .u8 0] from rfl, made_one]
  rfl
theorem sumB_V (l : List UInt8) : byV (sumB l) = (sumN l).map fun (n : Nat) => Value.int .u8 (n : Int) := by
  have h := adl_lt l (1, 0) (by decide) (by decide)
  simp only [byV, sumB, sumN, List.map_cons, List.map_nil]
  rw [ofNat_toNat _ (by omega), ofNat_toNat _ (by omega), ofNat_toNat _ (by omega), ofNat_toNat _ (by omega)]

set_option maxHeartbeats 800000 in
set_option maxRecDepth 100000 in
theorem sealed_any (W base : Nat) (l : List UInt8) (w : World) (h : Wr w W base l) (h0 : 0 < l.length) (hl : l.length ≤ 200000000) :
    Calls Tryz.prog 80 #[.pointer (some ⟨W, 0, none⟩)] w fun e w' => ∃ v, e = .returned v ∧ w'.ownsRow w.heap.size 5 1 v (l.length + 4) (byV (l ++ sumB l)) ∧ Kp [] w w' := by
  obtain ⟨i0, hi, hz0, hz1, hz2⟩ := info_parts info5
  obtain ⟨a, cap, h1, hown⟩ := wr_slice h
  obtain ⟨a', cap', e, hg⟩ := owns_forms hown
  simp at e
  obtain ⟨rfl, rfl⟩ := e
  obtain ⟨g, rfl⟩ := hg h0
  have hgl := hown.lt g rfl
  obtain ⟨c0, f0⟩ := wr_cell h1
  have hWl := heap_lt h1
  have H1 := hide h1
  have HO := hide hown
  have hne := owns_ne hown h1 (by decide)
  have hsum := hide (sum_any (some ⟨g, 0, none⟩) cap l w (vw_of_owns hown rfl) (by omega))
  have hsv := hide (sumB_V l)
  obtain ⟨s0, s1, s2, s3, hs⟩ : ∃ s0 s1 s2 s3, sumN l = [s0, s1, s2, s3] := ⟨_, _, _, _, rfl⟩
  have hsA : sumA l = .agg #[.int .u8 (s0 : Int), .int .u8 (s1 : Int), .int .u8 (s2 : Int), .int .u8 (s3 : Int)] := by unfold sumA; rw [hs]; rfl
  rw [hsA] at hsum
  rw [hs] at hsv
  clear h h1 hown hs hsA
  have hmk : ∀ w', (Instr.makeSlice 42 (.int .i64 0) (.int .i64 ((l.length : Int) + 4))).run Tryz.prog w' = .ok (.slice (some ⟨w'.heap.size, 0, none⟩) 0 (l.length + 4)) (w'.alloc (.cells (Array.replicate (l.length + 4) (Value.int .u8 0)) 5)) := fun w' => make_bytes (l.length + 4) w' (by omega)
  go_enter Tryz.func80, Tryz.ntmps80
  go_wp2_with fail
  refine hsum.out.mono ?_
  rintro e w1 ⟨rfl, hk1⟩
  have hW1 := hk1.heap H1.out (by simp)
  obtain ⟨c1, f1⟩ := wr_cell hW1
  have hz1' := hk1.size
  have ho1 := hk1.owns HO.out (by simp)
  have HO1 := hide ho1
  have hWl1 : W < w1.heap.size := by omega
  have hWne : W ≠ w1.heap.size := by omega
  have hWe : (W == w1.heap.size) = false := by simpa using hWne
  clear hW1 ho1 hsum c0 f0
  have hWl2 : W < w1.heap.size + 1 := by omega
  have hWl3 : W < w1.heap.size + 1 + 1 := by omega
  have hob := World.ownsRow_made (base := w.heap.size) (e := 5) (size := 1) (w1.alloc (.cells #[.int .u8 (s0 : Int), .int .u8 (s1 : Int), .int .u8 (s2 : Int), .int .u8 (s3 : Int)] 161)) (Array.replicate (l.length + 4) (Value.int .u8 0)) (l.length + 4) (by simp; omega) (by unfold maxLen; omega) (by simp)
  have hoc : ∀ j u, (byV l)[j]? = some u → ((w1.alloc (.cells #[.int .u8 (s0 : Int), .int .u8 (s1 : Int), .int .u8 (s2 : Int), .int .u8 (s3 : Int)] 161)).alloc (.cells (Array.replicate (l.length + 4) (Value.int .u8 0)) 5)).cell? ((⟨g, 0, none⟩ : Addr).add j) = some u := ((HO1.out.alloc _).alloc _).cells (g := g) rfl
  have h1c : ∀ u ∈ byV l, u.oneCell' = true := by intro u hu; simp [byV] at hu; obtain ⟨c, _, rfl⟩ := hu; rfl
  rw [World.size_alloc] at hob
  have HOB := hide hob
  have HOC := hide hoc
  have H1C := hide h1c
  clear hob hoc h1c
  go_wp2_with (first
    | (at_builtin; (refine wpList_append_own_at _ rfl _ _ 42 rfl w.heap.size 5 i0 (.int .u8 0) 1 1 Tryz.underlying42 hi hz0 hz1 hz2 rfl (by decide) _ _ _ rfl HOB.out ⟨g, 0, none⟩ l.length cap (byV l) rfl ?c0 HOC.out H1C.out ?c1 ?c2 ?c3 ?_))
    | fail)
  case c0 => simp [byV]
  case c1 => unfold maxLen; omega
  case c2 => omega
  case c3 => simp; omega
  intro v2 w2 hown2 hgrow2 _ _
  replace hown2 : w2.ownsRow w.heap.size 5 1 v2 l.length (byV l) := by simpa using hown2
  have hT2 : w2.heap[w1.heap.size]? = some (.cells #[.int .u8 (s0 : Int), .int .u8 (s1 : Int), .int .u8 (s2 : Int), .int .u8 (s3 : Int)] 161 (0, 0)) := by
    rw [hgrow2.block w1.heap.size (by simp; omega) (by simp [Value.ownBlock]), Below.heap_alloc _ _ _ (by simp)]
    exact heap_alloc_new w1 _
  have hcs : ∀ j u, [Value.int .u8 (s0 : Int), .int .u8 (s1 : Int), .int .u8 (s2 : Int), .int .u8 (s3 : Int)][j]? = some u → w2.cell? ((⟨w1.heap.size, 0, none⟩ : Addr).add j) = some u := by
    intro j u hu
    have e : (⟨w1.heap.size, 0, none⟩ : Addr).add j = ⟨w1.heap.size, j, none⟩ := by unfold Addr.add; split <;> simp_all
    rw [e]
    simp only [World.cell?, hT2]
    simpa using hu
  have h1d : ∀ u ∈ [Value.int .u8 (s0 : Int), .int .u8 (s1 : Int), .int .u8 (s2 : Int), .int .u8 (s3 : Int)], u.oneCell' = true := by
    intro u hu; simp at hu; rcases hu with rfl | rfl | rfl | rfl <;> rfl
  have hz2' := hgrow2.size
  simp at hz2'
  have k2 : Kp [] w w2 := ((hk1.alloc _).alloc _).grown hgrow2 (by intro k hk; simp [Value.ownBlock] at hk; right; omega)
  have HCS := hide hcs
  have H1D := hide h1d
  have HO2 := hide hown2
  obtain ⟨a2, cap2, rfl, _⟩ := owns_forms hown2
  clear hcs h1d hT2 hown2 hgrow2 HOB HOC H1C hmk
  go_wp2_with (first
    | (at_builtin; refine wpList_append_own_at _ rfl _ _ 42 rfl w.heap.size 5 i0 (.int .u8 0) 1 1 Tryz.underlying42 hi hz0 hz1 hz2 rfl (by decide) _ _ _ rfl HO2.out ⟨w1.heap.size, 0, none⟩ 4 4 [.int .u8 (s0 : Int), .int .u8 (s1 : Int), .int .u8 (s2 : Int), .int .u8 (s3 : Int)] rfl ?c0 HCS.out H1D.out ?c1 ?c2 ?c3 ?_)
    | fail)
  case c0 => rfl
  case c1 => unfold maxLen; omega
  case c2 => omega
  case c3 => omega
  intro v3 w3 hown3 hgrow3 _ _
  have HO3 := hide hown3
  obtain ⟨a3, cap3, rfl, _⟩ := owns_forms hown3
  clear hown3
  go_wp2_with fail
  go_ret
  refine ⟨_, rfl, ?_, k2.grown hgrow3 (fun k hk => .inr (HO2.out.lt k hk).1)⟩
  rw [byV_append, hsv.out]
  exact HO3.out
end Go.Proofs.YtnffagpdnklnkaaGreatDoor.Pak
