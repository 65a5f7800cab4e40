import Derived.Test.YtpdoacfiiledcaaPakA
import Derived.Laws.BitsAllLaws
namespace Go.Proofs.Ytpdoacfiiledcaa.Pak
open Go.RowKit Go.Proofs.Ytpdoacfiiledcaa SiftM
set_option linter.unusedVariables false

theorem Rd.block {w : World} {R B : Nat} {st : Option (List UInt8)} (h : Rd w R B st) : ∃ x y, w.heap[R]? = some (.cells #[x, y] 107 (0, 0)) := by
  cases st with
  | none => exact ⟨_, _, h.2⟩
  | some l => obtain ⟨_, a, cap, h, _⟩ := h; exact ⟨_, _, h⟩
theorem Rd.le {w : World} {R B : Nat} {st : Option (List UInt8)} (h : Rd w R B st) : B ≤ R := by
  cases st with
  | none => exact h.1
  | some l => exact h.1

set_option maxHeartbeats 400000 in
theorem next_none (R B : Nat) (w : World) (h : Rd w R B none ∨ Rd w R B (some [])) :
    Calls Try.prog 93 #[.pointer (some ⟨R, 0, none⟩)] w fun e w' => e = .returned (.int .u8 0) ∧ Rd w' R B none ∧ Kp [R] w w' := by
  obtain ⟨a, cap, b, hb⟩ : ∃ a cap b, w.heap[R]? = some (.cells #[.slice a 0 cap, b] 107 (0, 0)) := by
    rcases h with h | h
    · exact ⟨_, _, _, h.2⟩
    · obtain ⟨_, a, cap, h, _⟩ := h; exact ⟨_, _, _, h⟩
  have hBR : B ≤ R := by rcases h with h | h <;> exact h.1
  obtain ⟨c0, c1, f0, f1⟩ := rd_cells hb
  have H := hide hb
  clear h hb
  go_enter Try.func93, Try.ntmps93
  go_wp2_with fail
  refine (fail_any R B hBR _ _ w H.out).mono ?_
  rintro e w' ⟨rfl, hr, hk⟩
  go_wp2_with fail
  go_ret
  exact ⟨rfl, hr, hk⟩

theorem vw_kp {S : List Nat} {w w' : World} {B : Nat} {a : Option Addr} {l : List UInt8} (h : Vw w B a l) (k : Kp S w w') (hS : ∀ x ∈ S, B ≤ x) : Vw w' B a l := by
  rcases h with h | ⟨g, off, rfl, hg, hc⟩
  · exact .inl h
  exact .inr ⟨g, off, rfl, hg, fun j hj => k.cellv (hc j hj) (fun hx => by have := hS _ hx; simp at this; omega)⟩
theorem Rd.kp {S : List Nat} {w w' : World} {R B : Nat} {st : Option (List UInt8)} (h : Rd w R B st) (k : Kp S w w') (hR : R ∉ S) (hS : ∀ x ∈ S, B ≤ x) : Rd w' R B st := by
  cases st with
  | none => exact ⟨h.1, k.heap h.2 hR⟩
  | some l =>
    obtain ⟨h1, a, cap, e, hv, hc⟩ := h
    exact ⟨h1, a, cap, k.heap e hR, vw_kp hv k hS, hc⟩
theorem rd_put {w : World} {R B n cap : Nat} {a : Option Addr} (hB : B ≤ R) (H : w.heap[R]? = some (.cells #[.slice a n cap, .bool false] 107 (0, 0))) {a' : Option Addr} {l' : List UInt8} {n' cap' : Nat} (hn : n' = l'.length) (hv : Vw w B a' l') (h1 : l'.length ≤ cap') (h2 : cap' ≤ 9223372036854775807) :
    Rd (w.setCell ⟨R, 0, none⟩ (.slice a' n' cap')) R B (some l') := by
  subst hn
  refine ⟨hB, a', cap', ?_, vw_kp hv ((Kp.refl [R] w).setCell (.inl (by simp)) _) (by simpa using hB), h1, h2⟩
  have e1 := heap_setCell_same w R 0 _ 107 (.slice a' l'.length cap') H
  rw [e1]; rfl

set_option maxHeartbeats 400000 in
theorem next_some (R B : Nat) (c : UInt8) (r : List UInt8) (w : World) (h : Rd w R B (some (c :: r))) :
    Calls Try.prog 93 #[.pointer (some ⟨R, 0, none⟩)] w fun e w' => e = .returned (.int .u8 c.toNat) ∧ Rd w' R B (some r) ∧ Kp [R] w w' := by
  obtain ⟨hBR, a, cap, hb, hv, hn, hcap⟩ := h
  obtain ⟨g, off, rfl, hg, hc⟩ : ∃ g off, a = some ⟨g, off, none⟩ ∧ g < B ∧ ∀ j (h : j < (c :: r).length), w.cell? ⟨g, off + j, none⟩ = some (.int .u8 ((c :: r)[j].toNat : Int)) := by
    rcases hv with h | h
    · simp at h
    · exact h
  have hc0 := hc 0 (by simp)
  simp only [Nat.add_zero, List.getElem_cons_zero] at hc0
  obtain ⟨c0, c1, f0, f1⟩ := rd_cells hb
  have H := hide hb
  have HC := hide hc
  obtain ⟨n, hnE⟩ : ∃ n, n = (c :: r).length := ⟨_, rfl⟩
  rw [← hnE] at c0 hn
  have hn0 : 0 < n := by rw [hnE]; simp
  have HN := hide hnE
  clear hb hc hv hnE
  go_enter Try.func93, Try.ntmps93
  go_wp2_with fail
  · go_ret
    have hr : r = [] := by have := HN.out; simp at this; exact List.eq_nil_of_length_eq_zero (by omega)
    refine ⟨rfl, rd_put hBR H.out (by have := HN.out; simp at this; omega) (.inr ⟨g, off, rfl, hg, fun j hj => by rw [hr] at hj; simp at hj⟩) (by rw [hr]; simp) (by omega), (Kp.refl _ _).setCell (.inl (by simp)) _⟩
  · go_ret
    have hr : n = r.length + 1 := by have := HN.out; simpa using this
    refine ⟨rfl, rd_put hBR H.out (by omega) (.inr ⟨g, off + 1, rfl, hg, fun j hj => ?_⟩) (by omega) (by omega), (Kp.refl _ _).setCell (.inl (by simp)) _⟩
    have := HC.out (j + 1) (by simpa using hj)
    rw [show off + (j + 1) = off + 1 + j by omega] at this
    simpa using this

theorem next_any (R B : Nat) (st : Option (List UInt8)) (w : World) (h : Rd w R B st) :
    Calls Try.prog 93 #[.pointer (some ⟨R, 0, none⟩)] w fun e w' => e = .returned (.int .u8 (nextF st).1.toNat) ∧ Rd w' R B (nextF st).2 ∧ Kp [R] w w' := by
  match st, h with
  | none, h => exact next_none R B w (.inl h)
  | some [], h => exact next_none R B w (.inr h)
  | some (c :: r), h => exact next_some R B c r w h

/-- A small number: f: how many bytes it may have yet. -/
def smallG : Nat → Nat → Nat → Option (List UInt8) → Nat × Option (List UInt8)
  | 0, _, _, _ => (0, none)
  | f + 1, i, n, st =>
    if (nextF st).1.toNat < 128 then (n + (nextF st).1.toNat * 128 ^ i, if (nextF st).1 = 0 ∧ 0 < i then none else (nextF st).2)
    else smallG f (i + 1) (n + ((nextF st).1.toNat - 128) * 128 ^ i) (nextF st).2

theorem b127 (c : Nat) (h : c < 256) : bits .and .u8 (c : Int) 127 = ((c % 128 : Nat) : Int) := by
  have := u8_and_nat c 127 h (by omega)
  rw [show ((127 : Nat) : Int) = 127 from rfl] at this
  rw [this, show (127 : Nat) = 2 ^ 7 - 1 from rfl, Nat.and_two_pow_sub_one_eq_mod]
set_option maxRecDepth 10000 in
theorem b128a : ∀ c : Fin 256, (c.val &&& 128) = c.val / 128 * 128 := by decide
theorem b128 (c : Nat) (h : c < 256) : bits .and .u8 (c : Int) 128 = ((c / 128 * 128 : Nat) : Int) := by
  have := u8_and_nat c 128 h (by omega)
  rw [show ((128 : Nat) : Int) = 128 from rfl] at this
  rw [this, b128a ⟨c, h⟩]
theorem p128 (k : Nat) (hk : k < 9) : 128 ^ k ≤ 72057594037927936 ∧ (2 : Int) ^ (7 * k) = (128 ^ k : Nat) ∧ (2 : Nat) ^ (7 * k) = 128 ^ k := by
  have : k = 0 ∨ k = 1 ∨ k = 2 ∨ k = 3 ∨ k = 4 ∨ k = 5 ∨ k = 6 ∨ k = 7 ∨ k = 8 := by omega
  rcases this with rfl | rfl | rfl | rfl | rfl | rfl | rfl | rfl | rfl <;> decide
theorem ofInt_i64 (a : Nat) (h : a < 9223372036854775808) : (BitVec.ofInt 64 (a : Int)).toNat = a := by
  rw [BitVec.toNat_ofInt]; omega
theorem i64_or_nat (a b : Nat) (ha : a < 9223372036854775808) (hb : b < 9223372036854775808) : bits .or .i64 (a : Int) (b : Int) = ((a ||| b : Nat) : Int) := by
  have hx : a ||| b < 2 ^ 63 := Nat.or_lt_two_pow (by omega) (by omega)
  show IntKind.i64.wrap ((BitVec.ofInt 64 (a : Int) ||| BitVec.ofInt 64 (b : Int)).toNat : Int) = _
  rw [BitVec.toNat_or, ofInt_i64 a (by omega), ofInt_i64 b (by omega)]
  generalize a ||| b = x at *
  simp [IntKind.wrap, IntKind.bits, IntKind.signed]
  omega
theorem bor (n m k : Nat) (hk : k < 9) (hn : n < 128 ^ k) (hm : m < 128) : bits .or .i64 (n : Int) (wrap64 ((m : Int) * 2 ^ (7 * k))) = ((n + m * 128 ^ k : Nat) : Int) := by
  obtain ⟨h1, h2, h3⟩ := p128 k hk
  have hb : m * 128 ^ k ≤ 127 * 72057594037927936 := Nat.mul_le_mul (by omega) h1
  have e : wrap64 ((m : Int) * 2 ^ (7 * k)) = ((m * 128 ^ k : Nat) : Int) := by
    rw [h2, ← Int.natCast_mul]
    simp only [wrap64]
    omega
  rw [e, i64_or_nat n (m * 128 ^ k) (by omega) (by omega)]
  congr 1
  rw [Nat.or_comm, ← h3, Nat.mul_comm, ← Nat.two_pow_add_eq_or_of_lt (by rw [h3]; exact hn), Nat.add_comm]

set_option maxHeartbeats 400000 in
theorem small_rd (R B : Nat) (st : Option (List UInt8)) (w : World) (h : Rd w R B st) :
    Calls Try.prog 74 #[.pointer (some ⟨R, 0, none⟩)] w fun e w' => e = .returned (.int .i64 (smallG 9 0 0 st).1) ∧ Rd w' R B (smallG 9 0 0 st).2 ∧ Kp [R] w w' := by
  obtain ⟨res, hres⟩ : ∃ res, smallG 9 0 0 st = res := ⟨_, rfl⟩
  rw [hres]
  have HR := hide hres
  have HD := hide h
  clear hres h
  go_enter Try.func74, Try.ntmps74
  go_wp2_with fail
  go_loopw [3, 6] (fun nv iv wr => ∃ (k n : Nat) (s : Option (List UInt8)), k ≤ 9 ∧ n < 128 ^ k ∧ nv = .int .i64 n ∧ iv = .int .i64 k ∧ smallG (9 - k) k n s = res ∧ Rd wr R B s ∧ Kp [R] w wr) (fun _ iv _ => 9 - (intOf iv).toNat)
  case atStart => exact ⟨0, 0, st, by omega, by omega, rfl, rfl, HR.out, HD.out, Kp.refl _ _⟩
  case round =>
    obtain ⟨k, n, s, hk, hn, rfl, rfl, hs, hr, hkp⟩ := hrel
    by_cases hlt : k < 9
    · have HS := hide hs
      have Hr := hide hr
      have Hn := hide hn
      clear hs hr hn
      go_wp2_with fail
      obtain ⟨c, s', hcs⟩ : ∃ c s', nextF s = (c, s') := ⟨_, _, rfl⟩
      have hN := next_any R B s wr Hr.out
      rw [hcs] at hN
      refine hN.mono ?_
      rintro e w' ⟨rfl, hr', hkp'⟩
      have Hcs := hide hcs
      have Hr' := hide hr'
      clear hr' hcs hN
      have c256 : c.toNat < 256 := c.toNat_lt
      obtain ⟨m, hm⟩ : ∃ m, c.toNat % 128 = m := ⟨_, rfl⟩
      obtain ⟨q, hq⟩ : ∃ q, n + m * 128 ^ k = q := ⟨_, rfl⟩
      have hA := b127 c.toNat c256
      rw [hm] at hA
      have hm128 : m < 128 := by omega
      have hO := bor n m k hlt Hn.out hm128
      rw [hq] at hO
      have hB := b128 c.toNat c256
      have Hm := hide hm
      have Hq := hide hq
      have hpow : Hid (q < 128 ^ (k + 1)) := by
        have h1 := Hn.out
        have h2 : m * 128 ^ k ≤ 127 * 128 ^ k := Nat.mul_le_mul_right _ (by omega)
        show q < 128 ^ (k + 1)
        rw [Nat.pow_succ]; omega
      have kp2 := hkp.next hkp'
      by_cases hlow : c.toNat < 128
      · rw [show c.toNat / 128 * 128 = 0 by omega] at hB
        have hS : Hid ((q, if c = 0 ∧ 0 < k then none else s') = res) := by
          show (q, if c = 0 ∧ 0 < k then none else s') = res
          have h1 := HS.out
          obtain ⟨f, hf⟩ : ∃ f, 9 - k = f + 1 := ⟨8 - k, by omega⟩
          rw [hf, smallG, Hcs.out, if_pos hlow] at h1
          rw [← h1, ← hq]
          have : m = c.toNat := by omega
          rw [this]
        clear hm hq
        go_wp2_with fail
        · refine (fail_any R B Hr'.out.le _ _ w' (Classical.choose_spec (Classical.choose_spec Hr'.out.block))).mono ?_
          rintro e w2 ⟨rfl, hr2, hk2⟩
          have Hr2 := hide hr2
          clear hr2
          go_wp2_with fail
          go_ret
          have h0 : c = 0 := UInt8.toNat_inj.1 (by simpa using by assumption)
          have e := hS.out
          rw [if_pos ⟨h0, by assumption⟩] at e
          rw [← e]
          exact ⟨rfl, Hr2.out, kp2.next hk2⟩
        · go_ret
          have e := hS.out
          rw [if_neg (fun h => by have := h.2; contradiction)] at e
          rw [← e]
          exact ⟨rfl, Hr'.out, kp2⟩
        · go_ret
          have h0 : ¬ c = 0 := fun h => by subst h; simp at *
          have e := hS.out
          rw [if_neg (fun h => h0 h.1)] at e
          rw [← e]
          exact ⟨rfl, Hr'.out, kp2⟩
      · rw [show c.toNat / 128 * 128 = 128 by omega] at hB
        have hS : Hid (smallG (9 - (k + 1)) (k + 1) q s' = res) := by
          have h1 := HS.out
          obtain ⟨f, hf⟩ : ∃ f, 9 - k = f + 1 := ⟨8 - k, by omega⟩
          rw [hf, smallG, Hcs.out, if_neg hlow, show c.toNat - 128 = m by omega, hq] at h1
          rw [show 9 - (k + 1) = f by omega]
          exact h1
        clear hm hq
        go_wp2_with fail
        go_roundw
        case rel => exact ⟨k + 1, q, s', by omega, hpow.out, rfl, by go_num, hS.out, Hr'.out, kp2⟩
        case measure => simp [intOf]; omega
    · have : k = 9 := by omega
      subst this
      have hs4 : (0, none) = res := hs
      have Hr := hide hr
      have HS4 := hide hs4
      clear hs hr hs4
      go_wp2_with fail
      refine (fail_any R B Hr.out.le _ _ wr (Classical.choose_spec (Classical.choose_spec Hr.out.block))).mono ?_
      rintro e w2 ⟨rfl, hr2, hk2⟩
      have Hr2 := hide hr2
      clear hr2
      go_wp2_with fail
      go_ret
      rw [← HS4.out]
      exact ⟨rfl, Hr2.out, hkp.next hk2⟩
end Go.Proofs.Ytpdoacfiiledcaa.Pak
