import Derived.Test.YtnffagpdnklnkaaGreatDoorV00
import Derived.Laws.BitsAllLaws
import Derived.OwnWalk
import Derived.Maps.AppendAt
import Derived.Lib.AppendStr
import Derived.Laws.Bits128
set_option linter.unusedVariables false
set_option linter.unusedSimpArgs false
set_option maxRecDepth 8000
namespace Go.Proofs.YtnffagpdnklnkaaGreatDoor.Pak
open Go.RowKit Go.Proofs.YtnffagpdnklnkaaGreatDoor Go.Proofs.YtnffagpdnklnkaaGreatDoor.Spl SiftM
theorem Rd.block {w : World} {R B : Nat} {st : Option (List UInt8)} (h : Rd w R B st) : ∃ x y, w.heap[R]? = some (.cells #[x, y] 164 (0, 0)) := by
  cases st with
  | none => exact ⟨_, _, h.2⟩
  | some l => obtain ⟨_, a, cap, h, _⟩ := h; exact ⟨_, _, h⟩
theorem Rd.le {w : World} {R B : Nat} {st : Option (List UInt8)} (h : Rd w R B st) : B ≤ R := by
  cases st with
  | none => exact h.1
  | some l => exact h.1

set_option maxHeartbeats 400000 in
theorem next_none (R B : Nat) (w : World) (h : Rd w R B none ∨ Rd w R B (some [])) :
    Calls Tryz.prog 181 #[.pointer (some ⟨R, 0, none⟩)] w fun e w' => e = .returned (.int .u8 0) ∧ Rd w' R B none ∧ Kp [R] w w' := by
  obtain ⟨a, cap, b, hb⟩ : ∃ a cap b, w.heap[R]? = some (.cells #[.slice a 0 cap, b] 164 (0, 0)) := by
    rcases h with h | h
    · exact ⟨_, _, _, h.2⟩
    · obtain ⟨_, a, cap, h, _⟩ := h; exact ⟨_, _, _, h⟩
  have hBR : B ≤ R := by rcases h with h | h <;> exact h.1
  obtain ⟨c0, c1, f0, f1⟩ := rd_cells hb
  have H := hide hb
  clear h hb
  go_enter Tryz.func181, Tryz.ntmps181
  go_wp2_with fail
  refine (fail_any R B hBR _ _ w H.out).mono ?_
  rintro e w' ⟨rfl, hr, hk⟩
  go_wp2_with fail
  go_ret
  exact ⟨rfl, hr, hk⟩

theorem vw_kp {S : List Nat} {w w' : World} {B : Nat} {a : Option Addr} {l : List UInt8} (h : Vw w B a l) (k : Kp S w w') (hS : ∀ x ∈ S, B ≤ x) : Vw w' B a l := by
  rcases h with h | ⟨g, off, rfl, hg, hc⟩
  · exact .inl h
  exact .inr ⟨g, off, rfl, hg, fun j hj => k.cellv (hc j hj) (fun hx => by have := hS _ hx; simp at this; omega)⟩
theorem Rd.kp {S : List Nat} {w w' : World} {R B : Nat} {st : Option (List UInt8)} (h : Rd w R B st) (k : Kp S w w') (hR : R ∉ S) (hS : ∀ x ∈ S, B ≤ x) : Rd w' R B st := by
  cases st with
  | none => exact ⟨h.1, k.heap h.2 hR⟩
  | some l =>
    obtain ⟨h1, a, cap, e, hv, hc⟩ := h
    exact ⟨h1, a, cap, k.heap e hR, vw_kp hv k hS, hc⟩
theorem rd_put {w : World} {R B n cap : Nat} {a : Option Addr} (hB : B ≤ R) (H : w.heap[R]? = some (.cells #[.slice a n cap, .bool false] 164 (0, 0))) {a' : Option Addr} {l' : List UInt8} {n' cap' : Nat} (hn : n' = l'.length) (hv : Vw w B a' l') (h1 : l'.length ≤ cap') (h2 : cap' ≤ 9223372036854775807) :
    Rd (w.setCell ⟨R, 0, none⟩ (.slice a' n' cap')) R B (some l') := by
  subst hn
  refine ⟨hB, a', cap', ?_, vw_kp hv ((Kp.refl [R] w).setCell (.inl (by simp)) _) (by simpa using hB), h1, h2⟩
  have e1 := heap_setCell_same w R 0 _ 164 (.slice a' l'.length cap') H
  rw [e1]; rfl

set_option maxHeartbeats 400000 in
theorem next_some (R B : Nat) (c : UInt8) (r : List UInt8) (w : World) (h : Rd w R B (some (c :: r))) :
    Calls Tryz.prog 181 #[.pointer (some ⟨R, 0, none⟩)] w fun e w' => e = .returned (.int .u8 c.toNat) ∧ Rd w' R B (some r) ∧ Kp [R] w w' := by
  obtain ⟨hBR, a, cap, hb, hv, hn, hcap⟩ := h
  obtain ⟨g, off, rfl, hg, hc⟩ : ∃ g off, a = some ⟨g, off, none⟩ ∧ g < B ∧ ∀ j (h : j < (c :: r).length), w.cell? ⟨g, off + j, none⟩ = some (.int .u8 ((c :: r)[j].toNat : Int)) := by
    rcases hv with h | h
    · simp at h
    · exact h
  have hc0 := hc 0 (by simp)
  simp only [Nat.add_zero, List.getElem_cons_zero] at hc0
  obtain ⟨c0, c1, f0, f1⟩ := rd_cells hb
  have H := hide hb
  have HC := hide hc
  obtain ⟨n, hnE⟩ : ∃ n, n = (c :: r).length := ⟨_, rfl⟩
  rw [← hnE] at c0 hn
  have hn0 : 0 < n := by rw [hnE]; simp
  have HN := hide hnE
  clear hb hc hv hnE
  go_enter Tryz.func181, Tryz.ntmps181
  go_wp2_with fail
  · go_ret
    have hr : r = [] := by have := HN.out; simp at this; exact List.eq_nil_of_length_eq_zero (by omega)
    refine ⟨rfl, rd_put hBR H.out (by have := HN.out; simp at this; omega) (.inr ⟨g, off, rfl, hg, fun j hj => by rw [hr] at hj; simp at hj⟩) (by rw [hr]; simp) (by omega), (Kp.refl _ _).setCell (.inl (by simp)) _⟩
  · go_ret
    have hr : n = r.length + 1 := by have := HN.out; simpa using this
    refine ⟨rfl, rd_put hBR H.out (by omega) (.inr ⟨g, off + 1, rfl, hg, fun j hj => ?_⟩) (by omega) (by omega), (Kp.refl _ _).setCell (.inl (by simp)) _⟩
    have := HC.out (j + 1) (by simpa using hj)
    rw [show off + (j + 1) = off + 1 + j by omega] at this
    simpa using this

theorem next_any (R B : Nat) (st : Option (List UInt8)) (w : World) (h : Rd w R B st) :
    Calls Tryz.prog 181 #[.pointer (some ⟨R, 0, none⟩)] w fun e w' => e = .returned (.int .u8 (nextF st).1.toNat) ∧ Rd w' R B (nextF st).2 ∧ Kp [R] w w' := by
  match st, h with
  | none, h => exact next_none R B w (.inl h)
  | some [], h => exact next_none R B w (.inr h)
  | some (c :: r), h => exact next_some R B c r w h

/-- A small number: f: how many bytes it may have yet. -/
def smallG : Nat → Nat → Nat → Option (List UInt8) → Nat × Option (List UInt8)
  | 0, _, _, _ => (0, none)
  | f + 1, i, n, st =>
    if (nextF st).1.toNat < 128 then (n + (nextF st).1.toNat * 128 ^ i, if (nextF st).1 = 0 ∧ 0 < i then none else (nextF st).2)
    else smallG f (i + 1) (n + ((nextF st).1.toNat - 128) * 128 ^ i) (nextF st).2

theorem b127 (c : Nat) (h : c < 256) : bits .and .u8 (c : Int) 127 = ((c % 128 : Nat) : Int) := by
  have := u8_and_nat c 127 h (by omega)
  rw [show ((127 : Nat) : Int) = 127 from rfl] at this
  rw [this, show (127 : Nat) = 2 ^ 7 - 1 from rfl, Nat.and_two_pow_sub_one_eq_mod]
set_option maxRecDepth 10000 in
theorem b128a : ∀ c : Fin 256, (c.val &&& 128) = c.val / 128 * 128 := by decide
theorem b128 (c : Nat) (h : c < 256) : bits .and .u8 (c : Int) 128 = ((c / 128 * 128 : Nat) : Int) := by
  have := u8_and_nat c 128 h (by omega)
  rw [show ((128 : Nat) : Int) = 128 from rfl] at this
  rw [this, b128a ⟨c, h⟩]
theorem p128 (k : Nat) (hk : k < 9) : 128 ^ k ≤ 72057594037927936 ∧ (2 : Int) ^ (7 * k) = (128 ^ k : Nat) ∧ (2 : Nat) ^ (7 * k) = 128 ^ k := by
  have : k = 0 ∨ k = 1 ∨ k = 2 ∨ k = 3 ∨ k = 4 ∨ k = 5 ∨ k = 6 ∨ k = 7 ∨ k = 8 := by omega
  rcases this with rfl | rfl | rfl | rfl | rfl | rfl | rfl | rfl | rfl <;> decide
theorem ofInt_i64 (a : Nat) (h : a < 9223372036854775808) : (BitVec.ofInt 64 (a : Int)).toNat = a := by
  rw [BitVec.toNat_ofInt]; omega
theorem i64_or_nat (a b : Nat) (ha : a < 9223372036854775808) (hb : b < 9223372036854775808) : bits .or .i64 (a : Int) (b : Int) = ((a ||| b : Nat) : Int) := by
  have hx : a ||| b < 2 ^ 63 := Nat.or_lt_two_pow (by omega) (by omega)
  show IntKind.i64.wrap ((BitVec.ofInt 64 (a : Int) ||| BitVec.ofInt 64 (b : Int)).toNat : Int) = _
  rw [BitVec.toNat_or, ofInt_i64 a (by omega), ofInt_i64 b (by omega)]
  generalize a ||| b = x at *
  simp [IntKind.wrap, IntKind.bits, IntKind.signed]
  omega
theorem bor (n m k : Nat) (hk : k < 9) (hn : n < 128 ^ k) (hm : m < 128) : bits .or .i64 (n : Int) (wrap64 ((m : Int) * 2 ^ (7 * k))) = ((n + m * 128 ^ k : Nat) : Int) := by
  obtain ⟨h1, h2, h3⟩ := p128 k hk
  have hb : m * 128 ^ k ≤ 127 * 72057594037927936 := Nat.mul_le_mul (by omega) h1
  have e : wrap64 ((m : Int) * 2 ^ (7 * k)) = ((m * 128 ^ k : Nat) : Int) := by
    rw [h2, ← Int.natCast_mul]
    simp only [wrap64]
    omega
  rw [e, i64_or_nat n (m * 128 ^ k) (by omega) (by omega)]
  congr 1
  rw [Nat.or_comm, ← h3, Nat.mul_comm, ← Nat.two_pow_add_eq_or_of_lt (by rw [h3]; exact hn), Nat.add_comm]

set_option maxHeartbeats 400000 in
theorem small_rd (R B : Nat) (st : Option (List UInt8)) (w : World) (h : Rd w R B st) :
    Calls Tryz.prog 142 #[.pointer (some ⟨R, 0, none⟩)] w fun e w' => e = .returned (.int .i64 (smallG 9 0 0 st).1) ∧ Rd w' R B (smallG 9 0 0 st).2 ∧ Kp [R] w w' := by
  obtain ⟨res, hres⟩ : ∃ res, smallG 9 0 0 st = res := ⟨_, rfl⟩
  rw [hres]
  have HR := hide hres
  have HD := hide h
  clear hres h
  go_enter Tryz.func142, Tryz.ntmps142
  go_wp2_with fail
  go_loopw [3, 6] (fun nv iv wr => ∃ (k n : Nat) (s : Option (List UInt8)), k ≤ 9 ∧ n < 128 ^ k ∧ nv = .int .i64 n ∧ iv = .int .i64 k ∧ smallG (9 - k) k n s = res ∧ Rd wr R B s ∧ Kp [R] w wr) (fun _ iv _ => 9 - (intOf iv).toNat)
  case atStart => exact ⟨0, 0, st, by omega, by omega, rfl, rfl, HR.out, HD.out, Kp.refl _ _⟩
  case round =>
    obtain ⟨k, n, s, hk, hn, rfl, rfl, hs, hr, hkp⟩ := hrel
    by_cases hlt : k < 9
    · have HS := hide hs
      have Hr := hide hr
      have Hn := hide hn
      clear hs hr hn
      go_wp2_with fail
      obtain ⟨c, s', hcs⟩ : ∃ c s', nextF s = (c, s') := ⟨_, _, rfl⟩
      have hN := next_any R B s wr Hr.out
      rw [hcs] at hN
      refine hN.mono ?_
      rintro e w' ⟨rfl, hr', hkp'⟩
      have Hcs := hide hcs
      have Hr' := hide hr'
      clear hr' hcs hN
      have c256 : c.toNat < 256 := c.toNat_lt
      obtain ⟨m, hm⟩ : ∃ m, c.toNat % 128 = m := ⟨_, rfl⟩
      obtain ⟨q, hq⟩ : ∃ q, n + m * 128 ^ k = q := ⟨_, rfl⟩
      have hA := b127 c.toNat c256
      rw [hm] at hA
      have hm128 : m < 128 := by omega
      have hO := bor n m k hlt Hn.out hm128
      rw [hq] at hO
      have hB := b128 c.toNat c256
      have Hm := hide hm
      have Hq := hide hq
      have hpow : Hid (q < 128 ^ (k + 1)) := by
        have h1 := Hn.out
        have h2 : m * 128 ^ k ≤ 127 * 128 ^ k := Nat.mul_le_mul_right _ (by omega)
        show q < 128 ^ (k + 1)
        rw [Nat.pow_succ]; omega
      have kp2 := hkp.next hkp'
      by_cases hlow : c.toNat < 128
      · rw [show c.toNat / 128 * 128 = 0 by omega] at hB
        have hS : Hid ((q, if c = 0 ∧ 0 < k then none else s') = res) := by
          show (q, if c = 0 ∧ 0 < k then none else s') = res
          have h1 := HS.out
          obtain ⟨f, hf⟩ : ∃ f, 9 - k = f + 1 := ⟨8 - k, by omega⟩
          rw [hf, smallG, Hcs.out, if_pos hlow] at h1
          rw [← h1, ← hq]
          have : m = c.toNat := by omega
          rw [this]
        clear hm hq
        go_wp2_with fail
        · refine (fail_any R B Hr'.out.le _ _ w' (Classical.choose_spec (Classical.choose_spec Hr'.out.block))).mono ?_
          rintro e w2 ⟨rfl, hr2, hk2⟩
          have Hr2 := hide hr2
          clear hr2
          go_wp2_with fail
          go_ret
          have h0 : c = 0 := UInt8.toNat_inj.1 (by simpa using by assumption)
          have e := hS.out
          rw [if_pos ⟨h0, by assumption⟩] at e
          rw [← e]
          exact ⟨rfl, Hr2.out, kp2.next hk2⟩
        · go_ret
          have e := hS.out
          rw [if_neg (fun h => by have := h.2; contradiction)] at e
          rw [← e]
          exact ⟨rfl, Hr'.out, kp2⟩
        · go_ret
          have h0 : ¬ c = 0 := fun h => by subst h; simp at *
          have e := hS.out
          rw [if_neg (fun h => h0 h.1)] at e
          rw [← e]
          exact ⟨rfl, Hr'.out, kp2⟩
      · rw [show c.toNat / 128 * 128 = 128 by omega] at hB
        have hS : Hid (smallG (9 - (k + 1)) (k + 1) q s' = res) := by
          have h1 := HS.out
          obtain ⟨f, hf⟩ : ∃ f, 9 - k = f + 1 := ⟨8 - k, by omega⟩
          rw [hf, smallG, Hcs.out, if_neg hlow, show c.toNat - 128 = m by omega, hq] at h1
          rw [show 9 - (k + 1) = f by omega]
          exact h1
        clear hm hq
        go_wp2_with fail
        go_roundw
        case rel => exact ⟨k + 1, q, s', by omega, hpow.out, rfl, by go_num, hS.out, Hr'.out, kp2⟩
        case measure => simp [intOf]; omega
    · have : k = 9 := by omega
      subst this
      have hs4 : (0, none) = res := hs
      have Hr := hide hr
      have HS4 := hide hs4
      clear hs hr hs4
      go_wp2_with fail
      refine (fail_any R B Hr.out.le _ _ wr (Classical.choose_spec (Classical.choose_spec Hr.out.block))).mono ?_
      rintro e w2 ⟨rfl, hr2, hk2⟩
      have Hr2 := hide hr2
      clear hr2
      go_wp2_with fail
      go_ret
      rw [← HS4.out]
      exact ⟨rfl, Hr2.out, hkp.next hk2⟩
theorem small_lt : ∀ (f i n : Nat) (st : Option (List UInt8)), i + f ≤ 4 → n < 128 ^ i → (smallG f i n st).1 < 268435456
  | 0, i, n, st, h, hn => by simp [smallG]
  | f + 1, i, n, st, h, hn => by
    have hp : 128 ^ (i + 1) ≤ 128 ^ 4 := Nat.pow_le_pow_right (by omega) (by omega)
    have h256 : (nextF st).1.toNat < 256 := (nextF st).1.toNat_lt
    rw [smallG]
    split
    · rename_i hl
      have := Nat.mul_le_mul_right (128 ^ i) (show (nextF st).1.toNat ≤ 127 by omega)
      rw [Nat.pow_succ] at hp
      simp only; omega
    · refine small_lt f (i + 1) _ _ (by omega) ?_
      have := Nat.mul_le_mul_right (128 ^ i) (show (nextF st).1.toNat - 128 ≤ 127 by omega)
      rw [Nat.pow_succ]; omega

/-- A number that must be from lo to hi. -/
def numF (st : Option (List UInt8)) (lo hi : Int) : Nat × Option (List UInt8) :=
  if (smallG 4 0 0 st).2 = none ∨ ((smallG 4 0 0 st).1 : Int) < lo ∨ hi < ((smallG 4 0 0 st).1 : Int) then (0, none) else smallG 4 0 0 st
theorem numF_lt (st : Option (List UInt8)) (lo hi : Int) : (numF st lo hi).1 < 268435456 := by
  unfold numF; split
  · simp
  · exact small_lt 4 0 0 st (by omega) (by omega)

/-- A number of up to nine bytes that must be from lo to hi. -/
def numH (st : Option (List UInt8)) (lo hi : Int) : Nat × Option (List UInt8) :=
  if (smallG 9 0 0 st).2 = none ∨ ((smallG 9 0 0 st).1 : Int) < lo ∨ hi < ((smallG 9 0 0 st).1 : Int) then (0, none) else smallG 9 0 0 st
/-- What is read behind the first byte is no number, or is great. -/
theorem small_ge : ∀ (g i n : Nat) (st : Option (List UInt8)), 0 < i → (smallG g i n st).2 = none ∨ 128 ^ i ≤ (smallG g i n st).1
  | 0, i, n, st, h => .inl rfl
  | g + 1, i, n, st, h => by
    rw [smallG]
    split
    · by_cases hz : (nextF st).1 = 0
      · left; simp [hz, h]
      · right
        have h1 : 1 ≤ (nextF st).1.toNat := by
          have : (nextF st).1.toNat ≠ 0 := fun e => hz (UInt8.toNat_inj.1 (by simpa using e))
          omega
        have := Nat.mul_le_mul_right (128 ^ i) h1
        simp only; omega
    · rcases small_ge g (i + 1) (n + ((nextF st).1.toNat - 128) * 128 ^ i) (nextF st).2 (by omega) with e | e
      · exact .inl e
      · right
        have : 128 ^ i ≤ 128 ^ (i + 1) := Nat.pow_le_pow_right (by omega) (by omega)
        omega
theorem small_more (g : Nat) : ∀ (f i n : Nat) (st : Option (List UInt8)), 0 < i + f → smallG (f + g) i n st = smallG f i n st ∨ (smallG f i n st).2 = none ∧ ((smallG (f + g) i n st).2 = none ∨ 128 ^ (i + f) ≤ (smallG (f + g) i n st).1)
  | 0, i, n, st, h => by
    right
    refine ⟨rfl, ?_⟩
    rw [Nat.zero_add]
    exact small_ge g i n st (by omega)
  | f + 1, i, n, st, h => by
    rw [show f + 1 + g = (f + g) + 1 by omega, smallG, smallG]
    split
    · exact .inl rfl
    · have := small_more g f (i + 1) (n + ((nextF st).1.toNat - 128) * 128 ^ i) (nextF st).2 (by omega)
      rw [show i + (f + 1) = i + 1 + f by omega]
      exact this
theorem numH_numF (st : Option (List UInt8)) (lo hi : Int) (hh : hi < 268435456) : numH st lo hi = numF st lo hi := by
  unfold numH numF
  rcases small_more 5 4 0 0 st (by omega) with e | ⟨e1, e2⟩
  · rw [show 4 + 5 = 9 from rfl] at e
    rw [e]
  · rw [show 4 + 5 = 9 from rfl] at e2
    have h9 : (smallG 9 0 0 st).2 = none ∨ ((smallG 9 0 0 st).1 : Int) < lo ∨ hi < ((smallG 9 0 0 st).1 : Int) := by
      rcases e2 with e2 | e2
      · exact .inl e2
      · right; right
        rw [show 0 + 4 = 4 from rfl, show (128 : Nat) ^ 4 = 268435456 from rfl] at e2
        omega
    rw [if_pos h9, if_pos (.inl e1)]

set_option maxHeartbeats 400000 in
theorem number_any (R B : Nat) (st : Option (List UInt8)) (lo hi : Int) (w : World) (h : Rd w R B st) :
    Calls Tryz.prog 101 #[.pointer (some ⟨R, 0, none⟩), .int .i64 lo, .int .i64 hi] w fun e w' => e = .returned (.int .i64 (numH st lo hi).1) ∧ Rd w' R B (numH st lo hi).2 ∧ Kp [R] w w' := by
  obtain ⟨n, s, hs⟩ : ∃ n s, smallG 9 0 0 st = (n, s) := ⟨_, _, rfl⟩
  have hN := small_rd R B st w h
  obtain ⟨q, t, hqt⟩ : ∃ q t, numH st lo hi = (q, t) := ⟨_, _, rfl⟩
  rw [hqt]
  unfold numH at hqt
  rw [hs] at hN hqt
  have HQT := hide hqt
  have HD := hide h
  clear hs h hqt
  have HN := hide hN
  clear hN
  go_enter Tryz.func101, Tryz.ntmps101
  go_wp2_with fail
  refine HN.out.mono ?_
  rintro e w1 ⟨rfl, hr1, hk1⟩
  obtain ⟨x, y, hb⟩ := hr1.block
  have hy : y = .bool s.isNone := by
    cases s with
    | none => have e : some _ = some _ := hb.symm.trans hr1.2; simp at e; simp [e]
    | some l => obtain ⟨_, a, cap, e, _⟩ := hr1; have e := hb.symm.trans e; simp at e; simp [e]
  subst hy
  obtain ⟨c0, c1, f0, f1⟩ := rd_cells hb
  have HB := hide hb
  have HR := hide hr1
  clear hb hr1
  cases s with
  | none =>
    simp only [Option.isNone_none] at c1
    go_wp2_with fail
    refine (fail_any R B HR.out.le _ _ w1 HB.out).mono ?_
    rintro e w2 ⟨rfl, hr2, hk2⟩
    have HR2 := hide hr2
    clear hr2
    go_wp2_with fail
    go_ret
    have e := HQT.out
    rw [if_pos (by simp), Prod.mk.injEq] at e
    rw [← e.1, ← e.2]
    exact ⟨rfl, HR2.out, hk1.next hk2⟩
  | some l =>
    simp only [Option.isNone_some] at c1
    by_cases h1 : (n : Int) < lo
    · go_wp2_with fail
      refine (fail_any R B HR.out.le _ _ w1 HB.out).mono ?_
      rintro e w2 ⟨rfl, hr2, hk2⟩
      have HR2 := hide hr2
      clear hr2
      go_wp2_with fail
      go_ret
      have e := HQT.out
      rw [if_pos (Or.inr (Or.inl h1)), Prod.mk.injEq] at e
      rw [← e.1, ← e.2]
      exact ⟨rfl, HR2.out, hk1.next hk2⟩
    · by_cases h2 : hi < (n : Int)
      · go_wp2_with fail
        refine (fail_any R B HR.out.le _ _ w1 HB.out).mono ?_
        rintro e w2 ⟨rfl, hr2, hk2⟩
        have HR2 := hide hr2
        clear hr2
        go_wp2_with fail
        go_ret
        have e := HQT.out
        rw [if_pos (Or.inr (Or.inr h2)), Prod.mk.injEq] at e
        rw [← e.1, ← e.2]
        exact ⟨rfl, HR2.out, hk1.next hk2⟩
      · go_wp2_with fail
        go_ret
        have e := HQT.out
        rw [if_neg (by simp; omega), Prod.mk.injEq] at e
        rw [← e.1, ← e.2]
        exact ⟨rfl, HR.out, hk1⟩

theorem number_rd (R B : Nat) (st : Option (List UInt8)) (lo hi : Int) (w : World) (h : Rd w R B st) (hh : hi < 268435456) :
    Calls Tryz.prog 101 #[.pointer (some ⟨R, 0, none⟩), .int .i64 lo, .int .i64 hi] w fun e w' => e = .returned (.int .i64 (numF st lo hi).1) ∧ Rd w' R B (numF st lo hi).2 ∧ Kp [R] w w' := by
  rw [← numH_numF st lo hi hh]
  exact number_any R B st lo hi w h

/-- How far a rising list has come. -/
def Ri (w : World) (Q : Nat) (least : Nat) : Prop := w.heap[Q]? = some (.cells #[.int .i64 least] 217 (0, 0))
theorem ri_cell {w : World} {Q least : Nat} (h : Ri w Q least) : w.cell? ⟨Q, 0, none⟩ = some (.int .i64 least) ∧ w.frozen? ⟨Q, 0, none⟩ = false := by
  unfold Ri at h; simp [World.cell?, World.frozen?, h]
theorem ri_set {w : World} {Q least n : Nat} (h : Ri w Q least) : Ri (w.setCell ⟨Q, 0, none⟩ (.int .i64 n)) Q n := by
  have e := heap_setCell_same w Q 0 _ 217 (.int .i64 n) h
  show _ = _; rw [e]; rfl

set_option maxHeartbeats 400000 in
theorem behind_any (Q least gap : Nat) (w : World) (h : Ri w Q least) (h1 : least ≤ 1099511627776) (h2 : gap ≤ 1099511627776) :
    Calls Tryz.prog 180 #[.pointer (some ⟨Q, 0, none⟩), .int .i64 gap] w fun e w' => e = .returned (.int .i64 ((least + gap : Nat) : Int)) ∧ Ri w' Q (least + gap + 1) ∧ Kp [Q] w w' := by
  obtain ⟨c0, f0⟩ := ri_cell h
  have H := hide h
  clear h
  go_enter Tryz.func180, Tryz.ntmps180
  go_wp2_with fail
  go_ret
  exact ⟨ret_int (by omega), ri_set H.out, (Kp.refl _ _).setCell (.inl (by simp)) _⟩

set_option maxHeartbeats 400000 in
theorem entry_rd (R B Q : Nat) (st : Option (List UInt8)) (least : Nat) (most : Int) (w : World) (h : Rd w R B st) (hq : Ri w Q least) (hBQ : B ≤ Q) (h1 : least ≤ 1099511627776) (h2 : most ≤ 268435455) (h3 : -1099511627776 ≤ most) :
    Calls Tryz.prog 141 #[.pointer (some ⟨R, 0, none⟩), .pointer (some ⟨Q, 0, none⟩), .int .i64 most] w fun e w' =>
      e = .returned (.int .i64 ((least + (numF st 0 (most - least)).1 : Nat) : Int)) ∧ Rd w' R B (numF st 0 (most - least)).2 ∧ Ri w' Q (least + (numF st 0 (most - least)).1 + 1) ∧ Kp [R, Q] w w' := by
  obtain ⟨c0, f0⟩ := ri_cell hq
  obtain ⟨x, y, hb⟩ := h.block
  have hne : Q ≠ R := by
    rintro rfl
    unfold Ri at hq; rw [hb] at hq; simp at hq
  have hN := number_rd R B st 0 (most - least) w h (by omega)
  have hlt := numF_lt st 0 (most - least)
  obtain ⟨n, s, hs⟩ : ∃ n s, numF st 0 (most - least) = (n, s) := ⟨_, _, rfl⟩
  rw [hs] at hN hlt ⊢
  have HD := hide h
  have HQ := hide hq
  have HN := hide hN
  have HB := hide hb
  clear hs h hq hN hb
  simp only at hlt
  go_enter Tryz.func141, Tryz.ntmps141
  go_wp2_with fail
  refine HN.out.mono ?_
  rintro e w1 ⟨rfl, hr1, hk1⟩
  have hq1 : Ri w1 Q least := hk1.heap HQ.out (by simpa using hne)
  have HR1 := hide hr1
  have HQ1 := hide hq1
  clear hr1 hq1
  go_wp2_with fail
  refine (behind_any Q least n w1 HQ1.out h1 (by omega)).mono ?_
  rintro e w2 ⟨rfl, hq2, hk2⟩
  have HQ2 := hide hq2
  clear hq2
  go_wp2_with fail
  go_ret
  exact ⟨rfl, HR1.out.kp hk2 (by simpa using hne.symm) (by simpa using hBQ), HQ2.out, (hk1.mono (by simp)).next (hk2.mono (by simp))⟩
/-- Nothing has turned but the blocks of S and rows of bytes from base on. -/
structure Kb (t : TypeId) (S : List Nat) (base : Nat) (w w' : World) : Prop where
  os : w'.os = w.os
  tape : w'.tape = w.tape
  output : w'.output = w.output
  size : w.heap.size ≤ w'.heap.size
  block : ∀ k o, k ∉ S → w.heap[k]? = some o → (k < base ∨ ∀ cs fr, o ≠ .cells cs t fr) → w'.heap[k]? = some o
theorem Kb.refl (t : TypeId) (S : List Nat) (base : Nat) (w : World) : Kb t S base w w := ⟨rfl, rfl, rfl, Nat.le_refl _, fun _ _ _ h _ => h⟩
theorem Kb.trans {t : TypeId} {S S' : List Nat} {base : Nat} {a b c : World} (h : Kb t S base a b) (k : Kb t S' base b c) (hS : ∀ x ∈ S', x ∈ S ∨ a.heap.size ≤ x) : Kb t S base a c :=
  ⟨k.os.trans h.os, k.tape.trans h.tape, k.output.trans h.output, Nat.le_trans h.size k.size, fun i o hi ho hk => k.block i o (fun hx => by
    rcases hS i hx with h' | h'
    · exact hi h'
    · have := heap_lt ho; omega) (h.block i o hi ho hk) hk⟩
theorem Kb.next {t : TypeId} {S : List Nat} {base : Nat} {a b c : World} (h : Kb t S base a b) (k : Kb t S base b c) : Kb t S base a c := h.trans k fun _ hx => .inl hx
theorem Kb.mono {t : TypeId} {S S' : List Nat} {base : Nat} {w w' : World} (h : Kb t S base w w') (hS : ∀ x ∈ S, x ∈ S') : Kb t S' base w w' :=
  ⟨h.os, h.tape, h.output, h.size, fun k o hk ho hkind => h.block k o (fun hx => hk (hS k hx)) ho hkind⟩
theorem Kb.of_kp {t : TypeId} {S S' : List Nat} {base : Nat} {w w' : World} (h : Kp S w w') (hS : ∀ x ∈ S, x ∈ S' ∨ base ≤ x ∧ ∃ cs fr, w.heap[x]? = some (.cells cs t fr)) : Kb t S' base w w' :=
  ⟨h.os, h.tape, h.output, h.size, fun k o hk ho hkind => h.heap ho fun hx => by
    rcases hS k hx with e | ⟨e1, cs, fr, e2⟩
    · exact hk e
    · rcases hkind with h' | h'
      · omega
      · rw [ho] at e2; simp at e2; exact h' cs fr e2⟩
theorem Kb.alloc {t : TypeId} {S : List Nat} {base : Nat} {a w : World} (h : Kb t S base a w) (o : Obj) : Kb t S base a (w.alloc o) := h.next (Kb.of_kp (S := []) ((Kp.refl _ _).alloc _) (by simp))
theorem Kb.setW {t : TypeId} {S : List Nat} {base : Nat} {a w : World} (h : Kb t S base a w) {p : Addr} (hp : p.block ∈ S ∨ a.heap.size ≤ p.block) (u : Value) : Kb t S base a (w.setCell p u) :=
  h.trans (S' := [p.block]) (Kb.of_kp (S := [p.block]) ((Kp.refl _ _).setCell (.inl (by simp)) _) (by simp)) (by simpa using hp)
theorem Kb.grown {t : TypeId} {S : List Nat} {base : Nat} {a w w' : World} {v : Value} {n : Nat} {xs : List Value} (h : Kb t S base a w) (hown : w.ownsRow base t 1 v n xs) (hg : w.grownBy w' v.ownBlock) : Kb t S base a w' := by
  refine h.next (Kb.of_kp (S := v.ownBlock.toList) ((Kp.refl _ _).grown hg (fun k hk => .inl (by simp [hk]))) ?_)
  intro x hx
  rcases hown.2 with ⟨rfl, _⟩ | ⟨g, cap, cur, rfl, hb, hgg, rest⟩
  · simp [Value.ownBlock] at hx
  · simp [Value.ownBlock] at hx
    subst hx
    exact .inr ⟨hb, _, _, hgg⟩
theorem Kb.below {t : TypeId} {S : List Nat} {base B : Nat} {w w' : World} (h : Kb t S base w w') (hB : B ≤ w.heap.size) (hS : ∀ x ∈ S, B ≤ x) (hb : B ≤ base) : Below B w w' :=
  ⟨h.os, h.tape, h.output, h.size, fun k hk => by
    have hlt : k < w.heap.size := by omega
    have := h.block k _ (fun hx => by have := hS k hx; omega) (Array.getElem?_eq_getElem hlt) (.inl (by omega))
    rw [this, Array.getElem?_eq_getElem hlt]⟩
theorem Kb.heap {t : TypeId} {S : List Nat} {base k : Nat} {w w' : World} {cs : Array Value} {t' : TypeId} {fr : Nat × Nat} (h : Kb t S base w w') (hk : k ∉ S) (ho : w.heap[k]? = some (.cells cs t' fr)) (ht : t' ≠ t) : w'.heap[k]? = some (.cells cs t' fr) :=
  h.block k _ hk ho (.inr (fun cs fr e => by simp at e; exact ht e.2.1))
theorem Kb.owns {t : TypeId} {S : List Nat} {base base' : Nat} {w w' : World} {e : TypeId} {size : Nat} {v : Value} {n : Nat} {xs : List Value} (k : Kb t S base w w') (h : w.ownsRow base' e size v n xs) (he : e ≠ t) (hne : ∀ x ∈ S, v.ownBlock ≠ some x) : w'.ownsRow base' e size v n xs := by
  refine ⟨h.1, ?_⟩
  rcases h.2 with hn | ⟨g, cap, cur, rfl, hb, hgg, rest⟩
  · exact .inl hn
  · exact .inr ⟨g, cap, cur, rfl, hb, k.heap (fun hx => hne g hx rfl) hgg he, rest⟩

def byV (l : List UInt8) : List Value := l.map fun (c : UInt8) => Value.int .u8 (c.toNat : Int)
theorem byV_append (a b : List UInt8) : byV (a ++ b) = byV a ++ byV b := by simp [byV]
theorem info5 : (Tryz.prog.info? 5).map (fun i => (i.zero, i.size, i.bytes)) = some (some (.int .u8 0), 1, 1) := by kernel_rfl

/-- The writer in block W: what it has written. -/
def Wr (w : World) (W base : Nat) (l : List UInt8) : Prop := ∃ v, w.heap[W]? = some (.cells #[v] 146 (0, 0)) ∧ w.ownsRow base 5 1 v l.length (byV l)
theorem wr_cell {w : World} {W : Nat} {v : Value} (h : w.heap[W]? = some (.cells #[v] 146 (0, 0))) : w.cell? ⟨W, 0, none⟩ = some v ∧ w.frozen? ⟨W, 0, none⟩ = false := by
  simp [World.cell?, World.frozen?, h]
theorem wr_slice {w : World} {W base : Nat} {l : List UInt8} (h : Wr w W base l) : ∃ a cap, w.heap[W]? = some (.cells #[.slice a l.length cap] 146 (0, 0)) ∧ w.ownsRow base 5 1 (.slice a l.length cap) l.length (byV l) := by
  obtain ⟨v, h1, h2⟩ := h
  obtain ⟨a, cap, rfl, _⟩ := owns_forms h2
  exact ⟨a, cap, h1, h2⟩
theorem wr_put {w w' : World} {W base : Nat} {l : List UInt8} {v v' : Value} (h : w.heap[W]? = some (.cells #[v] 146 (0, 0))) (hown : w.ownsRow base 5 1 v' l.length (byV l)) : Wr (w.setCell ⟨W, 0, none⟩ v') W base l := by
  refine ⟨v', ?_, ?_⟩
  · have e := heap_setCell_same w W 0 _ 146 v' h
    rw [e]; rfl
  · exact ((Kp.refl [W] w).setCell (p := ⟨W, 0, none⟩) (.inl (by simp)) v').owns hown (fun g hg => by
      have := owns_ne hown h (by decide)
      rw [hg] at this; simpa using this)

set_option maxHeartbeats 400000 in
theorem wtext_any (W base : Nat) (l : List UInt8) (s : ByteArray) (w : World) (h : Wr w W base l) (hb : base ≤ w.heap.size) (hl : l.length + s.size ≤ 200000000) :
    Calls Tryz.prog 77 #[.pointer (some ⟨W, 0, none⟩), .string s] w fun e w' => e = .returned (.tuple #[]) ∧ Wr w' W base (l ++ s.data.toList) ∧ Kb 5 [W] base w w' := by
  obtain ⟨i0, hi, hz0, hz1, hz2⟩ := info_parts info5
  obtain ⟨a, cap, h1, hown⟩ := wr_slice h
  obtain ⟨c0, f0⟩ := wr_cell h1
  have H1 := hide h1
  have hne := owns_ne hown h1 (by decide)
  clear h h1
  go_enter Tryz.func77, Tryz.ntmps77
  go_wp2_with (first
    | (at_builtin; refine Lib.wpList_append_own_string _ rfl _ _ 42 9 rfl base 5 i0 Tryz.underlying42 Tryz.underlying9 hi hz0 hz1 hz2 _ _ _ rfl hown s rfl ?c1 ?c2 hb ?_)
    | fail)
  case c1 => unfold maxLen; omega
  case c2 => omega
  intro v' w2 hown2 hgrow _
  have h2 : w2.heap[W]? = some (.cells #[.slice a l.length cap] 146 (0, 0)) := by
    rw [hgrow.block W (heap_lt H1.out) (fun e => hne e.symm)]; exact H1.out
  obtain ⟨c2, f2⟩ := wr_cell h2
  have H2 := hide h2
  obtain ⟨a', cap', rfl, _⟩ := owns_forms hown2
  clear h2
  go_wp2_with fail
  go_end0
  refine ⟨rfl, wr_put (w' := w2) H2.out ?_, ((Kb.refl 5 [W] base w).grown hown hgrow).setW (.inl (by simp)) _⟩
  rw [byV_append, List.length_append]
  exact hown2
end Go.Proofs.YtnffagpdnklnkaaGreatDoor.Pak
