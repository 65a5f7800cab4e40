import Derived.Test.YtbkepgmgebmceaaGreatDoorV01
import Derived.Laws.BitsAllLaws
import Derived.OwnWalk

namespace Go.Proofs.YtbkepgmgebmceaaGreatDoor.Pak
open Go.RowKit Go.Proofs.YtbkepgmgebmceaaGreatDoor Go.Proofs.YtbkepgmgebmceaaGreatDoor.Spl SiftM
set_option linter.unusedVariables false

/-- Of what was there in w nothing has turned but the blocks of S. -/
structure Kp (S : List Nat) (w w' : World) : Prop where
  os : w'.os = w.os
  tape : w'.tape = w.tape
  output : w'.output = w.output
  size : w.heap.size ≤ w'.heap.size
  block : ∀ k, k < w.heap.size → k ∉ S → w'.heap[k]? = w.heap[k]?

theorem Kp.refl (S : List Nat) (w : World) : Kp S w w := ⟨rfl, rfl, rfl, Nat.le_refl _, fun _ _ _ => rfl⟩
theorem Kp.trans {S S' : List Nat} {a b c : World} (h : Kp S a b) (k : Kp S' b c) (hS : ∀ x ∈ S', x ∈ S ∨ a.heap.size ≤ x) : Kp S a c :=
  ⟨k.os.trans h.os, k.tape.trans h.tape, k.output.trans h.output, Nat.le_trans h.size k.size, fun i hi hn =>
    (k.block i (Nat.lt_of_lt_of_le hi h.size) (fun hx => by rcases hS i hx with h' | h'; exact hn h'; omega)).trans (h.block i hi hn)⟩
theorem Kp.next {S : List Nat} {a b c : World} (h : Kp S a b) (k : Kp S b c) : Kp S a c := h.trans k fun _ hx => .inl hx
theorem Kp.mono {S S' : List Nat} {w w' : World} (h : Kp S w w') (hS : ∀ x ∈ S, x ∈ S') : Kp S' w w' :=
  ⟨h.os, h.tape, h.output, h.size, fun k hk hn => h.block k hk fun hx => hn (hS k hx)⟩
theorem Kp.of_below {w w' : World} (S : List Nat) (h : Below w.heap.size w w') : Kp S w w' := ⟨h.os, h.tape, h.output, h.size, fun k hk _ => h.block k hk⟩
theorem Kp.below {S : List Nat} {w w' : World} {B : Nat} (h : Kp S w w') (hB : B ≤ w.heap.size) (hS : ∀ x ∈ S, B ≤ x) : Below B w w' :=
  ⟨h.os, h.tape, h.output, h.size, fun k hk => h.block k (by omega) fun hx => by have := hS k hx; omega⟩
theorem Kp.alloc {S : List Nat} {a w : World} (h : Kp S a w) (o : Obj) : Kp S a (w.alloc o) :=
  h.next ⟨rfl, rfl, rfl, by simp, fun k hk _ => Below.heap_alloc _ _ _ hk⟩
theorem Kp.drewN {S : List Nat} {a w : World} (h : Kp S a w) (n : Nat) : Kp S a (w.drewN n) := ⟨h.os, h.tape, h.output, h.size, h.block⟩
theorem Kp.setCell {S : List Nat} {a w : World} (h : Kp S a w) {p : Addr} (hp : p.block ∈ S ∨ a.heap.size ≤ p.block) (u : Value) : Kp S a (w.setCell p u) :=
  h.trans (S' := [p.block]) ⟨rfl, rfl, rfl, by simp [World.setCell], fun k hk hn => Below.heap_setCell _ _ _ _ (by simpa using hn)⟩ (by simpa using hp)
theorem Kp.grown {S : List Nat} {a w w' : World} {row : Option Nat} (h : Kp S a w) (hg : w.grownBy w' row) (hr : ∀ k, row = some k → k ∈ S ∨ a.heap.size ≤ k) : Kp S a w' :=
  h.trans (S' := row.toList) ⟨hg.os, hg.tape, hg.output, hg.size, fun k hk hn => hg.block k hk (by intro e; apply hn; rw [← e]; simp)⟩ (by
    intro x hx
    cases row with
    | none => simp at hx
    | some y => simp at hx; subst hx; exact hr _ rfl)
theorem Kp.cell {S : List Nat} {w w' : World} (h : Kp S w w') {p : Addr} (hl : p.block < w.heap.size) (hp : p.block ∉ S) : w'.cell? p = w.cell? p := World.cell?_of_block (w := w) (h.block p.block hl hp)
theorem Kp.cellv {S : List Nat} {w w' : World} (h : Kp S w w') {p : Addr} {v : Value} (hv : w.cell? p = some v) (hp : p.block ∉ S) : w'.cell? p = some v := (h.cell (World.block_lt_of_cell? w p hv) hp).trans hv
theorem Kp.heap {S : List Nat} {w w' : World} (h : Kp S w w') {k : Nat} {o : Obj} (ho : w.heap[k]? = some o) (hp : k ∉ S) : w'.heap[k]? = some o :=
  (h.block k (Array.getElem?_eq_some_iff.1 ho).1 hp).trans ho
theorem Kp.owns {S : List Nat} {w w' : World} {base : Nat} {e : TypeId} {size : Nat} {v : Value} {n : Nat} {xs : List Value} (k : Kp S w w') (h : w.ownsRow base e size v n xs) (hne : ∀ g, v.ownBlock = some g → g ∉ S) : w'.ownsRow base e size v n xs := by
  refine ⟨h.1, ?_⟩
  rcases h.2 with hn | ⟨g, cap, cur, rfl, hb, hgg, rest⟩
  · exact .inl hn
  · exact .inr ⟨g, cap, cur, rfl, hb, k.heap hgg (hne g rfl), rest⟩
theorem heap_lt {w : World} {k : Nat} {o : Obj} (ho : w.heap[k]? = some o) : k < w.heap.size := (Array.getElem?_eq_some_iff.1 ho).1
/-- Blocks of different kinds are different blocks. -/
theorem owns_ne {w : World} {base R n size : Nat} {e t : TypeId} {v : Value} {xs : List Value} {fr : Nat × Nat} (h : w.ownsRow base e size v n xs) {cs : Array Value} (hR : w.heap[R]? = some (.cells cs t fr)) (ht : t ≠ e) : v.ownBlock ≠ some R := by
  intro ee
  rcases h.2 with ⟨rfl, _⟩ | ⟨g, cap, cur, rfl, _, hh, _⟩
  · simp [Value.ownBlock] at ee
  · simp [Value.ownBlock] at ee
    subst ee
    rw [hR] at hh
    simp at hh
    exact ht hh.2.1

/-- A view of bytes. -/
def Vw (w : World) (B : Nat) (a : Option Addr) (l : List UInt8) : Prop := (l = [] ∧ a = none) ∨ ∃ g off, a = some ⟨g, off, none⟩ ∧ g < B ∧ ∀ j (h : j < l.length), w.cell? ⟨g, off + j, none⟩ = some (.int .u8 (l[j].toNat : Int))
/-- The reader in block R: none: it has failed. -/
def Rd (w : World) (R B : Nat) : Option (List UInt8) → Prop
  | none => B ≤ R ∧ w.heap[R]? = some (.cells #[.slice none 0 0, .bool true] 418 (0, 0))
  | some l => B ≤ R ∧ ∃ a cap, w.heap[R]? = some (.cells #[.slice a l.length cap, .bool false] 418 (0, 0)) ∧ Vw w B a l ∧ l.length ≤ cap ∧ cap ≤ 9223372036854775807

def nextF : Option (List UInt8) → UInt8 × Option (List UInt8)
  | none => (0, none)
  | some [] => (0, none)
  | some (c :: r) => (c, some r)

theorem rd_cells {w : World} {R : Nat} {x y : Value} {t : TypeId} (h : w.heap[R]? = some (.cells #[x, y] t (0, 0))) :
    w.cell? ⟨R, 0, none⟩ = some x ∧ w.cell? ⟨R, 1, none⟩ = some y ∧ w.frozen? ⟨R, 0, none⟩ = false ∧ w.frozen? ⟨R, 1, none⟩ = false := by
  simp [World.cell?, World.frozen?, h]

set_option maxHeartbeats 400000 in
theorem fail_any (R B : Nat) (hB : B ≤ R) (x y : Value) (w : World) (h : w.heap[R]? = some (.cells #[x, y] 418 (0, 0))) :
    Calls Tryz.prog 311 #[.pointer (some ⟨R, 0, none⟩)] w fun e w' => e = .returned (.tuple #[]) ∧ Rd w' R B none ∧ Kp [R] w w' := by
  obtain ⟨c0, c1, f0, f1⟩ := rd_cells h
  have H := hide h
  clear h
  go_enter Tryz.func311, Tryz.ntmps311
  go_wp2_with fail
  go_end0
  refine ⟨rfl, ⟨hB, ?_⟩, ((Kp.refl _ _).setCell (.inl (by simp)) _).setCell (.inl (by simp)) _⟩
  have e1 := heap_setCell_same w R 1 _ 418 (.bool true) H.out
  have e2 := heap_setCell_same _ R 0 _ 418 (.slice none 0 0) e1
  rw [e2]; rfl
end Go.Proofs.YtbkepgmgebmceaaGreatDoor.Pak

namespace Go.Proofs.YtbkepgmgebmceaaGreatDoor.Pak
open Go.RowKit Go.Proofs.YtbkepgmgebmceaaGreatDoor Go.Proofs.YtbkepgmgebmceaaGreatDoor.Spl SiftM
set_option linter.unusedVariables false

theorem Rd.block {w : World} {R B : Nat} {st : Option (List UInt8)} (h : Rd w R B st) : ∃ x y, w.heap[R]? = some (.cells #[x, y] 418 (0, 0)) := by
  cases st with
  | none => exact ⟨_, _, h.2⟩
  | some l => obtain ⟨_, a, cap, h, _⟩ := h; exact ⟨_, _, h⟩
theorem Rd.le {w : World} {R B : Nat} {st : Option (List UInt8)} (h : Rd w R B st) : B ≤ R := by
  cases st with
  | none => exact h.1
  | some l => exact h.1

set_option maxHeartbeats 400000 in
theorem next_none (R B : Nat) (w : World) (h : Rd w R B none ∨ Rd w R B (some [])) :
    Calls Tryz.prog 388 #[.pointer (some ⟨R, 0, none⟩)] w fun e w' => e = .returned (.int .u8 0) ∧ Rd w' R B none ∧ Kp [R] w w' := by
  obtain ⟨a, cap, b, hb⟩ : ∃ a cap b, w.heap[R]? = some (.cells #[.slice a 0 cap, b] 418 (0, 0)) := by
    rcases h with h | h
    · exact ⟨_, _, _, h.2⟩
    · obtain ⟨_, a, cap, h, _⟩ := h; exact ⟨_, _, _, h⟩
  have hBR : B ≤ R := by rcases h with h | h <;> exact h.1
  obtain ⟨c0, c1, f0, f1⟩ := rd_cells hb
  have H := hide hb
  clear h hb
  go_enter Tryz.func388, Tryz.ntmps388
  go_wp2_with fail
  refine (fail_any R B hBR _ _ w H.out).mono ?_
  rintro e w' ⟨rfl, hr, hk⟩
  go_wp2_with fail
  go_ret
  exact ⟨rfl, hr, hk⟩

theorem vw_kp {S : List Nat} {w w' : World} {B : Nat} {a : Option Addr} {l : List UInt8} (h : Vw w B a l) (k : Kp S w w') (hS : ∀ x ∈ S, B ≤ x) : Vw w' B a l := by
  rcases h with h | ⟨g, off, rfl, hg, hc⟩
  · exact .inl h
  exact .inr ⟨g, off, rfl, hg, fun j hj => k.cellv (hc j hj) (fun hx => by have := hS _ hx; simp at this; omega)⟩
theorem Rd.kp {S : List Nat} {w w' : World} {R B : Nat} {st : Option (List UInt8)} (h : Rd w R B st) (k : Kp S w w') (hR : R ∉ S) (hS : ∀ x ∈ S, B ≤ x) : Rd w' R B st := by
  cases st with
  | none => exact ⟨h.1, k.heap h.2 hR⟩
  | some l =>
    obtain ⟨h1, a, cap, e, hv, hc⟩ := h
    exact ⟨h1, a, cap, k.heap e hR, vw_kp hv k hS, hc⟩
theorem rd_put {w : World} {R B n cap : Nat} {a : Option Addr} (hB : B ≤ R) (H : w.heap[R]? = some (.cells #[.slice a n cap, .bool false] 418 (0, 0))) {a' : Option Addr} {l' : List UInt8} {n' cap' : Nat} (hn : n' = l'.length) (hv : Vw w B a' l') (h1 : l'.length ≤ cap') (h2 : cap' ≤ 9223372036854775807) :
    Rd (w.setCell ⟨R, 0, none⟩ (.slice a' n' cap')) R B (some l') := by
  subst hn
  refine ⟨hB, a', cap', ?_, vw_kp hv ((Kp.refl [R] w).setCell (.inl (by simp)) _) (by simpa using hB), h1, h2⟩
  have e1 := heap_setCell_same w R 0 _ 418 (.slice a' l'.length cap') H
  rw [e1]; rfl

set_option maxHeartbeats 400000 in
theorem next_some (R B : Nat) (c : UInt8) (r : List UInt8) (w : World) (h : Rd w R B (some (c :: r))) :
    Calls Tryz.prog 388 #[.pointer (some ⟨R, 0, none⟩)] w fun e w' => e = .returned (.int .u8 c.toNat) ∧ Rd w' R B (some r) ∧ Kp [R] w w' := by
  obtain ⟨hBR, a, cap, hb, hv, hn, hcap⟩ := h
  obtain ⟨g, off, rfl, hg, hc⟩ : ∃ g off, a = some ⟨g, off, none⟩ ∧ g < B ∧ ∀ j (h : j < (c :: r).length), w.cell? ⟨g, off + j, none⟩ = some (.int .u8 ((c :: r)[j].toNat : Int)) := by
    rcases hv with h | h
    · simp at h
    · exact h
  have hc0 := hc 0 (by simp)
  simp only [Nat.add_zero, List.getElem_cons_zero] at hc0
  obtain ⟨c0, c1, f0, f1⟩ := rd_cells hb
  have H := hide hb
  have HC := hide hc
  obtain ⟨n, hnE⟩ : ∃ n, n = (c :: r).length := ⟨_, rfl⟩
  rw [← hnE] at c0 hn
  have hn0 : 0 < n := by rw [hnE]; simp
  have HN := hide hnE
  clear hb hc hv hnE
  go_enter Tryz.func388, Tryz.ntmps388
  go_wp2_with fail
  · go_ret
    have hr : r = [] := by have := HN.out; simp at this; exact List.eq_nil_of_length_eq_zero (by omega)
    refine ⟨rfl, rd_put hBR H.out (by have := HN.out; simp at this; omega) (.inr ⟨g, off, rfl, hg, fun j hj => by rw [hr] at hj; simp at hj⟩) (by rw [hr]; simp) (by omega), (Kp.refl _ _).setCell (.inl (by simp)) _⟩
  · go_ret
    have hr : n = r.length + 1 := by have := HN.out; simpa using this
    refine ⟨rfl, rd_put hBR H.out (by omega) (.inr ⟨g, off + 1, rfl, hg, fun j hj => ?_⟩) (by omega) (by omega), (Kp.refl _ _).setCell (.inl (by simp)) _⟩
    have := HC.out (j + 1) (by simpa using hj)
    rw [show off + (j + 1) = off + 1 + j by omega] at this
    simpa using this

theorem next_any (R B : Nat) (st : Option (List UInt8)) (w : World) (h : Rd w R B st) :
    Calls Tryz.prog 388 #[.pointer (some ⟨R, 0, none⟩)] w fun e w' => e = .returned (.int .u8 (nextF st).1.toNat) ∧ Rd w' R B (nextF st).2 ∧ Kp [R] w w' := by
  match st, h with
  | none, h => exact next_none R B w (.inl h)
  | some [], h => exact next_none R B w (.inr h)
  | some (c :: r), h => exact next_some R B c r w h

/-- A small number: f: how many bytes it may have yet. -/
def smallG : Nat → Nat → Nat → Option (List UInt8) → Nat × Option (List UInt8)
  | 0, _, _, _ => (0, none)
  | f + 1, i, n, st =>
    if (nextF st).1.toNat < 128 then (n + (nextF st).1.toNat * 128 ^ i, if (nextF st).1 = 0 ∧ 0 < i then none else (nextF st).2)
    else smallG f (i + 1) (n + ((nextF st).1.toNat - 128) * 128 ^ i) (nextF st).2

theorem b127 (c : Nat) (h : c < 256) : bits .and .u8 (c : Int) 127 = ((c % 128 : Nat) : Int) := by
  have := u8_and_nat c 127 h (by omega)
  rw [show ((127 : Nat) : Int) = 127 from rfl] at this
  rw [this, show (127 : Nat) = 2 ^ 7 - 1 from rfl, Nat.and_two_pow_sub_one_eq_mod]
set_option maxRecDepth 10000 in
theorem b128a : ∀ c : Fin 256, (c.val &&& 128) = c.val / 128 * 128 := by decide
theorem b128 (c : Nat) (h : c < 256) : bits .and .u8 (c : Int) 128 = ((c / 128 * 128 : Nat) : Int) := by
  have := u8_and_nat c 128 h (by omega)
  rw [show ((128 : Nat) : Int) = 128 from rfl] at this
  rw [this, b128a ⟨c, h⟩]
theorem p128 (k : Nat) (hk : k < 4) : 128 ^ k ≤ 2097152 ∧ (2 : Int) ^ (7 * k) = (128 ^ k : Nat) ∧ (2 : Nat) ^ (7 * k) = 128 ^ k := by
  have : k = 0 ∨ k = 1 ∨ k = 2 ∨ k = 3 := by omega
  rcases this with rfl | rfl | rfl | rfl <;> decide
theorem ofInt_i64 (a : Nat) (h : a < 9223372036854775808) : (BitVec.ofInt 64 (a : Int)).toNat = a := by
  rw [BitVec.toNat_ofInt]; omega
theorem i64_or_nat (a b : Nat) (ha : a < 4611686018427387904) (hb : b < 4611686018427387904) : bits .or .i64 (a : Int) (b : Int) = ((a ||| b : Nat) : Int) := by
  have hx : a ||| b < 2 ^ 62 := Nat.or_lt_two_pow (by omega) (by omega)
  show IntKind.i64.wrap ((BitVec.ofInt 64 (a : Int) ||| BitVec.ofInt 64 (b : Int)).toNat : Int) = _
  rw [BitVec.toNat_or, ofInt_i64 a (by omega), ofInt_i64 b (by omega)]
  generalize a ||| b = x at *
  simp [IntKind.wrap, IntKind.bits, IntKind.signed]
  omega
theorem bor (n m k : Nat) (hk : k < 4) (hn : n < 128 ^ k) (hm : m < 128) : bits .or .i64 (n : Int) (wrap64 ((m : Int) * 2 ^ (7 * k))) = ((n + m * 128 ^ k : Nat) : Int) := by
  obtain ⟨h1, h2, h3⟩ := p128 k hk
  have hb : m * 128 ^ k ≤ 127 * 2097152 := Nat.mul_le_mul (by omega) h1
  have e : wrap64 ((m : Int) * 2 ^ (7 * k)) = ((m * 128 ^ k : Nat) : Int) := by
    rw [h2, ← Int.natCast_mul]
    simp only [wrap64]
    omega
  rw [e, i64_or_nat n (m * 128 ^ k) (by omega) (by omega)]
  congr 1
  rw [Nat.or_comm, ← h3, Nat.mul_comm, ← Nat.two_pow_add_eq_or_of_lt (by rw [h3]; exact hn), Nat.add_comm]

set_option maxHeartbeats 400000 in
theorem small_rd (R B : Nat) (st : Option (List UInt8)) (w : World) (h : Rd w R B st) :
    Calls Tryz.prog 359 #[.pointer (some ⟨R, 0, none⟩)] w fun e w' => e = .returned (.int .i64 (smallG 4 0 0 st).1) ∧ Rd w' R B (smallG 4 0 0 st).2 ∧ Kp [R] w w' := by
  obtain ⟨res, hres⟩ : ∃ res, smallG 4 0 0 st = res := ⟨_, rfl⟩
  rw [hres]
  have HR := hide hres
  have HD := hide h
  clear hres h
  go_enter Tryz.func359, Tryz.ntmps359
  go_wp2_with fail
  go_loopw [3, 6] (fun nv iv wr => ∃ (k n : Nat) (s : Option (List UInt8)), k ≤ 4 ∧ n < 128 ^ k ∧ nv = .int .i64 n ∧ iv = .int .i64 k ∧ smallG (4 - k) k n s = res ∧ Rd wr R B s ∧ Kp [R] w wr) (fun _ iv _ => 4 - (intOf iv).toNat)
  case atStart => exact ⟨0, 0, st, by omega, by omega, rfl, rfl, HR.out, HD.out, Kp.refl _ _⟩
  case round =>
    obtain ⟨k, n, s, hk, hn, rfl, rfl, hs, hr, hkp⟩ := hrel
    by_cases hlt : k < 4
    · have HS := hide hs
      have Hr := hide hr
      have Hn := hide hn
      clear hs hr hn
      go_wp2_with fail
      obtain ⟨c, s', hcs⟩ : ∃ c s', nextF s = (c, s') := ⟨_, _, rfl⟩
      have hN := next_any R B s wr Hr.out
      rw [hcs] at hN
      refine hN.mono ?_
      rintro e w' ⟨rfl, hr', hkp'⟩
      have Hcs := hide hcs
      have Hr' := hide hr'
      clear hr' hcs hN
      have c256 : c.toNat < 256 := c.toNat_lt
      obtain ⟨m, hm⟩ : ∃ m, c.toNat % 128 = m := ⟨_, rfl⟩
      obtain ⟨q, hq⟩ : ∃ q, n + m * 128 ^ k = q := ⟨_, rfl⟩
      have hA := b127 c.toNat c256
      rw [hm] at hA
      have hm128 : m < 128 := by omega
      have hO := bor n m k hlt Hn.out hm128
      rw [hq] at hO
      have hB := b128 c.toNat c256
      have Hm := hide hm
      have Hq := hide hq
      have hpow : Hid (q < 128 ^ (k + 1)) := by
        have h1 := Hn.out
        have h2 : m * 128 ^ k ≤ 127 * 128 ^ k := Nat.mul_le_mul_right _ (by omega)
        show q < 128 ^ (k + 1)
        rw [Nat.pow_succ]; omega
      have kp2 := hkp.next hkp'
      by_cases hlow : c.toNat < 128
      · rw [show c.toNat / 128 * 128 = 0 by omega] at hB
        have hS : Hid ((q, if c = 0 ∧ 0 < k then none else s') = res) := by
          show (q, if c = 0 ∧ 0 < k then none else s') = res
          have h1 := HS.out
          obtain ⟨f, hf⟩ : ∃ f, 4 - k = f + 1 := ⟨3 - k, by omega⟩
          rw [hf, smallG, Hcs.out, if_pos hlow] at h1
          rw [← h1, ← hq]
          have : m = c.toNat := by omega
          rw [this]
        clear hm hq
        go_wp2_with fail
        · refine (fail_any R B Hr'.out.le _ _ w' (Classical.choose_spec (Classical.choose_spec Hr'.out.block))).mono ?_
          rintro e w2 ⟨rfl, hr2, hk2⟩
          have Hr2 := hide hr2
          clear hr2
          go_wp2_with fail
          go_ret
          have h0 : c = 0 := UInt8.toNat_inj.1 (by simpa using by assumption)
          have e := hS.out
          rw [if_pos ⟨h0, by assumption⟩] at e
          rw [← e]
          exact ⟨rfl, Hr2.out, kp2.next hk2⟩
        · go_ret
          have e := hS.out
          rw [if_neg (fun h => by have := h.2; contradiction)] at e
          rw [← e]
          exact ⟨rfl, Hr'.out, kp2⟩
        · go_ret
          have h0 : ¬ c = 0 := fun h => by subst h; simp at *
          have e := hS.out
          rw [if_neg (fun h => h0 h.1)] at e
          rw [← e]
          exact ⟨rfl, Hr'.out, kp2⟩
      · rw [show c.toNat / 128 * 128 = 128 by omega] at hB
        have hS : Hid (smallG (4 - (k + 1)) (k + 1) q s' = res) := by
          have h1 := HS.out
          obtain ⟨f, hf⟩ : ∃ f, 4 - k = f + 1 := ⟨3 - k, by omega⟩
          rw [hf, smallG, Hcs.out, if_neg hlow, show c.toNat - 128 = m by omega, hq] at h1
          rw [show 4 - (k + 1) = f by omega]
          exact h1
        clear hm hq
        go_wp2_with fail
        go_roundw
        case rel => exact ⟨k + 1, q, s', by omega, hpow.out, rfl, by go_num, hS.out, Hr'.out, kp2⟩
        case measure => simp [intOf]; omega
    · have : k = 4 := by omega
      subst this
      have hs4 : (0, none) = res := hs
      have Hr := hide hr
      have HS4 := hide hs4
      clear hs hr hs4
      go_wp2_with fail
      refine (fail_any R B Hr.out.le _ _ wr (Classical.choose_spec (Classical.choose_spec Hr.out.block))).mono ?_
      rintro e w2 ⟨rfl, hr2, hk2⟩
      have Hr2 := hide hr2
      clear hr2
      go_wp2_with fail
      go_ret
      rw [← HS4.out]
      exact ⟨rfl, Hr2.out, hkp.next hk2⟩
end Go.Proofs.YtbkepgmgebmceaaGreatDoor.Pak

namespace Go.Proofs.YtbkepgmgebmceaaGreatDoor.Pak
open Go.RowKit Go.Proofs.YtbkepgmgebmceaaGreatDoor Go.Proofs.YtbkepgmgebmceaaGreatDoor.Spl SiftM
set_option linter.unusedVariables false

theorem small_lt : ∀ (f i n : Nat) (st : Option (List UInt8)), i + f ≤ 4 → n < 128 ^ i → (smallG f i n st).1 < 268435456
  | 0, i, n, st, h, hn => by simp [smallG]
  | f + 1, i, n, st, h, hn => by
    have hp : 128 ^ (i + 1) ≤ 128 ^ 4 := Nat.pow_le_pow_right (by omega) (by omega)
    have h256 : (nextF st).1.toNat < 256 := (nextF st).1.toNat_lt
    rw [smallG]
    split
    · rename_i hl
      have := Nat.mul_le_mul_right (128 ^ i) (show (nextF st).1.toNat ≤ 127 by omega)
      rw [Nat.pow_succ] at hp
      simp only; omega
    · refine small_lt f (i + 1) _ _ (by omega) ?_
      have := Nat.mul_le_mul_right (128 ^ i) (show (nextF st).1.toNat - 128 ≤ 127 by omega)
      rw [Nat.pow_succ]; omega

/-- A number that must be from lo to hi. -/
def numF (st : Option (List UInt8)) (lo hi : Int) : Nat × Option (List UInt8) :=
  if (smallG 4 0 0 st).2 = none ∨ ((smallG 4 0 0 st).1 : Int) < lo ∨ hi < ((smallG 4 0 0 st).1 : Int) then (0, none) else smallG 4 0 0 st
theorem numF_lt (st : Option (List UInt8)) (lo hi : Int) : (numF st lo hi).1 < 268435456 := by
  unfold numF; split
  · simp
  · exact small_lt 4 0 0 st (by omega) (by omega)

set_option maxHeartbeats 400000 in
theorem number_rd (R B : Nat) (st : Option (List UInt8)) (lo hi : Int) (w : World) (h : Rd w R B st) :
    Calls Tryz.prog 313 #[.pointer (some ⟨R, 0, none⟩), .int .i64 lo, .int .i64 hi] w fun e w' => e = .returned (.int .i64 (numF st lo hi).1) ∧ Rd w' R B (numF st lo hi).2 ∧ Kp [R] w w' := by
  obtain ⟨n, s, hs⟩ : ∃ n s, smallG 4 0 0 st = (n, s) := ⟨_, _, rfl⟩
  have hN := small_rd R B st w h
  obtain ⟨q, t, hqt⟩ : ∃ q t, numF st lo hi = (q, t) := ⟨_, _, rfl⟩
  rw [hqt]
  unfold numF at hqt
  rw [hs] at hN hqt
  have HQT := hide hqt
  have HD := hide h
  clear hs h hqt
  have HN := hide hN
  clear hN
  go_enter Tryz.func313, Tryz.ntmps313
  go_wp2_with fail
  refine HN.out.mono ?_
  rintro e w1 ⟨rfl, hr1, hk1⟩
  obtain ⟨x, y, hb⟩ := hr1.block
  have hy : y = .bool s.isNone := by
    cases s with
    | none => have e : some _ = some _ := hb.symm.trans hr1.2; simp at e; simp [e]
    | some l => obtain ⟨_, a, cap, e, _⟩ := hr1; have e := hb.symm.trans e; simp at e; simp [e]
  subst hy
  obtain ⟨c0, c1, f0, f1⟩ := rd_cells hb
  have HB := hide hb
  have HR := hide hr1
  clear hb hr1
  cases s with
  | none =>
    simp only [Option.isNone_none] at c1
    go_wp2_with fail
    refine (fail_any R B HR.out.le _ _ w1 HB.out).mono ?_
    rintro e w2 ⟨rfl, hr2, hk2⟩
    have HR2 := hide hr2
    clear hr2
    go_wp2_with fail
    go_ret
    have e := HQT.out
    rw [if_pos (by simp), Prod.mk.injEq] at e
    rw [← e.1, ← e.2]
    exact ⟨rfl, HR2.out, hk1.next hk2⟩
  | some l =>
    simp only [Option.isNone_some] at c1
    by_cases h1 : (n : Int) < lo
    · go_wp2_with fail
      refine (fail_any R B HR.out.le _ _ w1 HB.out).mono ?_
      rintro e w2 ⟨rfl, hr2, hk2⟩
      have HR2 := hide hr2
      clear hr2
      go_wp2_with fail
      go_ret
      have e := HQT.out
      rw [if_pos (Or.inr (Or.inl h1)), Prod.mk.injEq] at e
      rw [← e.1, ← e.2]
      exact ⟨rfl, HR2.out, hk1.next hk2⟩
    · by_cases h2 : hi < (n : Int)
      · go_wp2_with fail
        refine (fail_any R B HR.out.le _ _ w1 HB.out).mono ?_
        rintro e w2 ⟨rfl, hr2, hk2⟩
        have HR2 := hide hr2
        clear hr2
        go_wp2_with fail
        go_ret
        have e := HQT.out
        rw [if_pos (Or.inr (Or.inr h2)), Prod.mk.injEq] at e
        rw [← e.1, ← e.2]
        exact ⟨rfl, HR2.out, hk1.next hk2⟩
      · go_wp2_with fail
        go_ret
        have e := HQT.out
        rw [if_neg (by simp; omega), Prod.mk.injEq] at e
        rw [← e.1, ← e.2]
        exact ⟨rfl, HR.out, hk1⟩

/-- How far a rising list has come. -/
def Ri (w : World) (Q : Nat) (least : Nat) : Prop := w.heap[Q]? = some (.cells #[.int .i64 least] 407 (0, 0))
theorem ri_cell {w : World} {Q least : Nat} (h : Ri w Q least) : w.cell? ⟨Q, 0, none⟩ = some (.int .i64 least) ∧ w.frozen? ⟨Q, 0, none⟩ = false := by
  unfold Ri at h; simp [World.cell?, World.frozen?, h]
theorem ri_set {w : World} {Q least n : Nat} (h : Ri w Q least) : Ri (w.setCell ⟨Q, 0, none⟩ (.int .i64 n)) Q n := by
  have e := heap_setCell_same w Q 0 _ 407 (.int .i64 n) h
  show _ = _; rw [e]; rfl

set_option maxHeartbeats 400000 in
theorem behind_any (Q least gap : Nat) (w : World) (h : Ri w Q least) (h1 : least ≤ 1099511627776) (h2 : gap ≤ 1099511627776) :
    Calls Tryz.prog 387 #[.pointer (some ⟨Q, 0, none⟩), .int .i64 gap] w fun e w' => e = .returned (.int .i64 ((least + gap : Nat) : Int)) ∧ Ri w' Q (least + gap + 1) ∧ Kp [Q] w w' := by
  obtain ⟨c0, f0⟩ := ri_cell h
  have H := hide h
  clear h
  go_enter Tryz.func387, Tryz.ntmps387
  go_wp2_with fail
  go_ret
  exact ⟨ret_int (by omega), ri_set H.out, (Kp.refl _ _).setCell (.inl (by simp)) _⟩

set_option maxHeartbeats 400000 in
theorem entry_rd (R B Q : Nat) (st : Option (List UInt8)) (least : Nat) (most : Int) (w : World) (h : Rd w R B st) (hq : Ri w Q least) (hBQ : B ≤ Q) (h1 : least ≤ 1099511627776) (h2 : most ≤ 1099511627776) (h3 : -1099511627776 ≤ most) :
    Calls Tryz.prog 358 #[.pointer (some ⟨R, 0, none⟩), .pointer (some ⟨Q, 0, none⟩), .int .i64 most] w fun e w' =>
      e = .returned (.int .i64 ((least + (numF st 0 (most - least)).1 : Nat) : Int)) ∧ Rd w' R B (numF st 0 (most - least)).2 ∧ Ri w' Q (least + (numF st 0 (most - least)).1 + 1) ∧ Kp [R, Q] w w' := by
  obtain ⟨c0, f0⟩ := ri_cell hq
  obtain ⟨x, y, hb⟩ := h.block
  have hne : Q ≠ R := by
    rintro rfl
    unfold Ri at hq; rw [hb] at hq; simp at hq
  have hN := number_rd R B st 0 (most - least) w h
  have hlt := numF_lt st 0 (most - least)
  obtain ⟨n, s, hs⟩ : ∃ n s, numF st 0 (most - least) = (n, s) := ⟨_, _, rfl⟩
  rw [hs] at hN hlt ⊢
  have HD := hide h
  have HQ := hide hq
  have HN := hide hN
  have HB := hide hb
  clear hs h hq hN hb
  simp only at hlt
  go_enter Tryz.func358, Tryz.ntmps358
  go_wp2_with fail
  refine HN.out.mono ?_
  rintro e w1 ⟨rfl, hr1, hk1⟩
  have hq1 : Ri w1 Q least := hk1.heap HQ.out (by simpa using hne)
  have HR1 := hide hr1
  have HQ1 := hide hq1
  clear hr1 hq1
  go_wp2_with fail
  refine (behind_any Q least n w1 HQ1.out h1 (by omega)).mono ?_
  rintro e w2 ⟨rfl, hq2, hk2⟩
  have HQ2 := hide hq2
  clear hq2
  go_wp2_with fail
  go_ret
  exact ⟨rfl, HR1.out.kp hk2 (by simpa using hne.symm) (by simpa using hBQ), HQ2.out, (hk1.mono (by simp)).next (hk2.mono (by simp))⟩
end Go.Proofs.YtbkepgmgebmceaaGreatDoor.Pak

namespace Go.Proofs.YtbkepgmgebmceaaGreatDoor.Pak
open Go.RowKit Go.Proofs.YtbkepgmgebmceaaGreatDoor Go.Proofs.YtbkepgmgebmceaaGreatDoor.Spl SiftM
set_option linter.unusedVariables false

set_option maxHeartbeats 400000 in
theorem done_rd (R B : Nat) (st : Option (List UInt8)) (w : World) (h : Rd w R B st) :
    Calls Tryz.prog 250 #[.pointer (some ⟨R, 0, none⟩)] w fun e w' => e = .returned (.bool (decide (st = some []))) ∧ w' = w := by
  cases st with
  | none =>
    obtain ⟨c0, c1, f0, f1⟩ := rd_cells h.2
    clear h
    go_enter Tryz.func250, Tryz.ntmps250
    go_wp2_with fail
    go_ret
    exact ⟨rfl, rfl⟩
  | some l =>
    obtain ⟨_, a, cap, hb, _⟩ := h
    obtain ⟨c0, c1, f0, f1⟩ := rd_cells hb
    clear hb
    have e : Hid ((((l.length : Nat) : Int) == 0) = decide (some l = some [])) := by
      show _ = _
      cases l with
      | nil => rfl
      | cons a r => simp; omega
    generalize hd : decide (some l = some []) = d at *
    have Hd := hide hd
    clear hd
    go_enter Tryz.func250, Tryz.ntmps250
    go_wp2_with fail
    go_ret
    exact ⟨ret_bool (by rw [← e.out]), rfl⟩

/-- What k rounds of a rising list give: the entries, how far it has come, what is left. -/
def riseN (most : Int) (st : Option (List UInt8)) : Nat → List Nat × Nat × Option (List UInt8)
  | 0 => ([], 0, st)
  | k + 1 => ((riseN most st k).1 ++ [(riseN most st k).2.1 + (numF (riseN most st k).2.2 0 (most - (riseN most st k).2.1)).1],
      (riseN most st k).2.1 + (numF (riseN most st k).2.2 0 (most - (riseN most st k).2.1)).1 + 1, (numF (riseN most st k).2.2 0 (most - (riseN most st k).2.1)).2)
theorem riseN_len (most : Int) (st : Option (List UInt8)) : ∀ k, (riseN most st k).1.length = k
  | 0 => rfl
  | k + 1 => by simp [riseN, riseN_len most st k]
theorem riseN_le (most : Int) (st : Option (List UInt8)) : ∀ k, (riseN most st k).2.1 ≤ k * 268435456
  | 0 => by simp [riseN]
  | k + 1 => by
    have h := riseN_le most st k
    have h2 := numF_lt (riseN most st k).2.2 0 (most - (riseN most st k).2.1)
    simp only [riseN]; omega

def intV (l : List Nat) : List Value := l.map fun (n : Nat) => Value.int .i64 (n : Int)
theorem intV_length (l : List Nat) : (intV l).length = l.length := by simp [intV]

theorem made_one (z : Value) (n : Nat) : madeCells #[z] n = Array.replicate n z := by
  apply Array.ext
  · simp [size_madeCells]
  · intro i h1 h2
    simp [madeCells]
    have : i % 1 = 0 := by omega
    simp [this]

theorem info3 : (Tryz.prog.info? 3).map (fun i => (i.zero, i.size, i.bytes)) = some (some (.int .i64 0), 1, 8) := by kernel_rfl
theorem make_ints (c : Nat) (w : World) (hc : c ≤ 2000000) : (Instr.makeSlice 24 (.int .i64 c) (.int .i64 c)).run Tryz.prog w = .ok (.slice (some ⟨w.heap.size, 0, none⟩) c c) (w.alloc (.cells (Array.replicate c (Value.int .i64 0)) 3)) := by
  obtain ⟨i0, hi, hz0, hz1, hz2⟩ := info_parts info3
  have := run_make (P := Tryz.prog) w 24 3 i0 (.int .i64 0) Tryz.underlying24 hi hz0 .i64 .i64 c c (by omega) (by omega) (by rw [hz2]; omega) (by omega)
  rw [hz1, Nat.mul_one] at this
  simp only [Int.toNat_natCast] at this
  rw [this, show (Value.int .i64 0).cells = #[.int .i64 0] from rfl, made_one]

/-- The list's block behind k rounds. -/
def part (l : List Nat) (c : Nat) : Array Value := (intV l ++ List.replicate (c - l.length) (Value.int .i64 0)).toArray
theorem part_set (l : List Nat) (c n : Nat) (h : l.length < c) : (part l c).setIfInBounds l.length (.int .i64 (n : Int)) = part (l ++ [n]) c := by
  unfold part
  rw [List.setIfInBounds_toArray]
  congr 1
  obtain ⟨d, hd⟩ : ∃ d, c - l.length = d + 1 := ⟨c - l.length - 1, by omega⟩
  rw [List.set_append_right _ _ (by rw [intV_length]; omega), intV_length, Nat.sub_self, hd, List.replicate_succ, List.set_cons_zero]
  rw [show c - (l ++ [n]).length = d by simp; omega]
  simp [intV]
theorem part_cell {w : World} {L c : Nat} {l : List Nat} (h : w.heap[L]? = some (.cells (part l c) 3 (0, 0))) (hl : l.length < c) : w.cell? ⟨L, l.length, none⟩ = some (.int .i64 0) ∧ w.frozen? ⟨L, l.length, none⟩ = false := by
  constructor
  · simp only [World.cell?, h]
    unfold part
    obtain ⟨d, hd⟩ : ∃ d, c - l.length = d + 1 := ⟨c - l.length - 1, by omega⟩
    rw [List.getElem?_toArray, List.getElem?_append_right (by rw [intV_length]; omega), intV_length, Nat.sub_self, hd]
    rfl
  · simp [World.frozen?, h]

set_option maxHeartbeats 2000000 in
theorem rising_rd (R B : Nat) (st : Option (List UInt8)) (count : Nat) (most : Int) (w : World) (h : Rd w R B st) (hc : count ≤ 4000) (h2 : most ≤ 2000000) (h3 : -2000000 ≤ most) (hBw : B ≤ w.heap.size) :
    Calls Tryz.prog 312 #[.pointer (some ⟨R, 0, none⟩), .int .i64 count, .int .i64 most] w fun e w' => ∃ v,
      e = .returned v ∧ w'.ownsRow w.heap.size 3 1 v count (intV (riseN most st count).1) ∧ Rd w' R B (riseN most st count).2.2 ∧ Kp [R] w w' := by
  have hmk := fun w' => make_ints count w' (by omega)
  obtain ⟨x, y, hb⟩ := h.block
  have hlt := heap_lt hb
  have H := hide h
  clear h hb
  go_enter Tryz.func312, Tryz.ntmps312
  go_wp2_with fail
  obtain ⟨W, hW⟩ : ∃ W, (w.alloc (.cells (Array.replicate count (Value.int .i64 0)) 3)).alloc (.cells #[.int .i64 0] 407) = W := ⟨_, rfl⟩
  rw [hW]
  have hL0 : W.heap[w.heap.size]? = some (.cells (part [] count) 3 (0, 0)) := by
    rw [← hW, Below.heap_alloc _ _ _ (by simp)]
    rw [heap_alloc_new]
    simp [part, intV]
  have hQ0 : Ri W (w.heap.size + 1) 0 := by
    rw [← hW]
    have := heap_alloc_new (w.alloc (.cells (Array.replicate count (Value.int .i64 0)) 3)) (.cells #[.int .i64 0] 407)
    simpa [Ri] using this
  have hK0 : Kp [R] w W := by rw [← hW]; exact ((Kp.refl _ _).alloc _).alloc _
  have hR0 : Rd W R B st := by
    have k0 : Kp [] w W := by rw [← hW]; exact ((Kp.refl _ _).alloc _).alloc _
    exact H.out.kp k0 (by simp) (by simp)
  have HL0 := hide hL0
  have HQ0 := hide hQ0
  have HR0 := hide hR0
  clear hL0 hQ0 hR0 hmk hW
  go_loopw [14] (fun iv wr => ∃ k : Nat, k ≤ count ∧ iv = .int .i64 k ∧ wr.heap[w.heap.size]? = some (.cells (part (riseN most st k).1 count) 3 (0, 0)) ∧ Ri wr (w.heap.size + 1) (riseN most st k).2.1 ∧ Rd wr R B (riseN most st k).2.2 ∧ Kp [R] w wr) (fun iv _ => count - (intOf iv).toNat)
  case atStart => exact ⟨0, by omega, rfl, HL0.out, HQ0.out, HR0.out, hK0⟩
  case round =>
    clear HL0 HQ0 HR0 hK0
    obtain ⟨k, hk, rfl, hL, hQ, hR, hK⟩ := hrel
    by_cases hlt2 : k < count
    · have hE := entry_rd R B (w.heap.size + 1) (riseN most st k).2.2 (riseN most st k).2.1 most wr hR hQ (by omega) (by have := riseN_le most st k; omega) (by omega) (by omega)
      have hres : Hid (riseN most st (k + 1) = _) := rfl
      have hlen := riseN_len most st k
      have hlt1 := numF_lt (riseN most st k).2.2 0 (most - (riseN most st k).2.1)
      have hle := riseN_le most st k
      have hd : riseN most st (k + 1) = ((riseN most st k).1 ++ [(riseN most st k).2.1 + (numF (riseN most st k).2.2 0 (most - (riseN most st k).2.1)).1], (riseN most st k).2.1 + (numF (riseN most st k).2.2 0 (most - (riseN most st k).2.1)).1 + 1, (numF (riseN most st k).2.2 0 (most - (riseN most st k).2.1)).2) := rfl
      obtain ⟨l, le, s, hrs⟩ : ∃ l le s, riseN most st k = (l, le, s) := ⟨_, _, _, rfl⟩
      rw [hrs] at hE hlen hlt1 hle hd hL hQ hR
      simp only at hE hlen hlt1 hle hd hL hQ hR
      obtain ⟨n, s', hns⟩ : ∃ n s', numF s 0 (most - le) = (n, s') := ⟨_, _, rfl⟩
      rw [hns] at hE hlt1 hd
      simp only at hE hlt1 hd
      have HE := hide hE
      have HD := hide hd
      have HL := hide hL
      have HR := hide hR
      have HQ := hide hQ
      clear hE hd hres hrs hns hL hR hQ
      have Hlen := hide hlen
      clear hlen
      go_wp2_with fail
      refine HE.out.mono ?_
      rintro e w1 ⟨rfl, hr1, hq1, hk1⟩
      have hne : R ≠ w.heap.size + 1 := by omega
      have hne2 : w.heap.size ∉ [R, w.heap.size + 1] := by simp; omega
      have hL1 := hk1.heap HL.out hne2
      have hcl := part_cell hL1 (by rw [Hlen.out]; exact hlt2)
      rw [Hlen.out] at hcl
      obtain ⟨hc1, hf1⟩ := hcl
      have HR1 := hide hr1
      have HQ1 := hide hq1
      have HL1 := hide hL1
      clear hr1 hq1 hL1
      go_wp2_with fail
      go_roundw
      case rel =>
        refine ⟨k + 1, by omega, by go_num, ?_, ?_, ?_, ?_⟩
        · rw [HD.out]
          have := heap_setCell_same w1 w.heap.size k _ 3 (.int .i64 ((le + n : Nat) : Int)) HL1.out
          have hp := part_set l count (le + n) (by rw [Hlen.out]; exact hlt2)
          rw [Hlen.out] at hp
          rw [hp] at this
          simpa using this
        · rw [HD.out]
          exact ((Kp.refl [w.heap.size] w1).setCell (.inl (by simp)) _).heap HQ1.out (by simp)
        · rw [HD.out]
          exact HR1.out.kp ((Kp.refl [w.heap.size] w1).setCell (.inl (by simp)) _) (by simp; omega) (by simpa using hBw)
        · exact (hK.trans hk1 (by simp)).setCell (.inr (by simp)) _
      case measure => simp [intOf]; omega
    · have e : k = count := by omega
      subst e
      have HL := hide hL
      have HR := hide hR
      clear hL hR hQ
      go_wp2_with fail
      go_ret
      have hlen := riseN_len most st k
      refine ⟨_, rfl, ⟨by rw [intV_length, hlen]; omega, .inr ⟨w.heap.size, k, _, rfl, Nat.le_refl _, HL.out, Nat.le_refl _, by unfold maxLen; omega, ?_, ?_⟩⟩, HR.out, hK⟩
      · simp [part, intV, hlen]
      · unfold part
        rw [hlen, Nat.sub_self]
        simp only [List.replicate_zero, List.append_nil]
        rw [List.take_of_length_le (by rw [intV_length, hlen]; omega)]
end Go.Proofs.YtbkepgmgebmceaaGreatDoor.Pak

namespace Go.Proofs.YtbkepgmgebmceaaGreatDoor.Pak
open Go.RowKit Go.Proofs.YtbkepgmgebmceaaGreatDoor Go.Proofs.YtbkepgmgebmceaaGreatDoor.Spl SiftM
set_option linter.unusedVariables false

def textF (st : Option (List UInt8)) (n : Nat) : List UInt8 × Option (List UInt8) :=
  match st with
  | none => ([], none)
  | some l => if l.length < n then ([], none) else (l.take n, some (l.drop n))

theorem conv_vw (w : World) (B : Nat) (a : Option Addr) (l : List UInt8) (h : Vw w B a l) (cap : Nat) :
    (convert 109 9 (.slice a l.length cap)).run Tryz.prog w = .ok (.string ⟨l.toArray⟩) w := by
  rcases h with ⟨rfl, rfl⟩ | ⟨g, off, rfl, hg, hc⟩
  · exact run_convert_bytes_nil (P := Tryz.prog) w 109 5 Tryz.underlying109 Tryz.underlying5 0 cap 9 Tryz.underlying9
  · have hb : Lib.Bytes w g off ⟨l.toArray⟩ := by
      intro i hi
      have hi' : i < l.length := by
        have h2 : i < l.toArray.size := hi
        simpa using h2
      rw [hc i hi']
      rfl
    exact Lib.run_convert_whole (P := Tryz.prog) w 109 5 9 Tryz.underlying109 Tryz.underlying5 Tryz.underlying9 g off ⟨l.toArray⟩ hb cap

set_option maxHeartbeats 400000 in
set_option maxRecDepth 100000 in
theorem text_rd (R B : Nat) (st : Option (List UInt8)) (n : Nat) (w : World) (h : Rd w R B st) (hn : n ≤ 2000000) :
    Calls Tryz.prog 310 #[.pointer (some ⟨R, 0, none⟩), .int .i64 n] w fun e w' => e = .returned (.string ⟨(textF st n).1.toArray⟩) ∧ Rd w' R B (textF st n).2 ∧ Kp [R] w w' := by
  match st, h with
  | none, h =>
    have hB := h.1
    obtain ⟨c0, c1, f0, f1⟩ := rd_cells h.2
    have H := hide h.2
    have HH := hide h
    clear h
    show Calls _ _ _ _ fun e w' => e = .returned (.string ⟨([] : List UInt8).toArray⟩) ∧ Rd w' R B none ∧ Kp [R] w w'
    by_cases h0 : 0 < n
    · go_enter Tryz.func310, Tryz.ntmps310
      go_wp2_with fail
      refine (fail_any R B hB _ _ w H.out).mono ?_
      rintro e w1 ⟨rfl, hr1, hk1⟩
      have HR1 := hide hr1
      clear hr1
      go_wp2_with fail
      go_ret
      exact ⟨rfl, HR1.out, hk1⟩
    · have : n = 0 := by omega
      subst this
      have hcv : ∀ w', (convert 109 9 (.slice none 0 0)).run Tryz.prog w' = .ok (.string ⟨#[]⟩) w' := fun w' => run_convert_bytes_nil (P := Tryz.prog) w' 109 5 Tryz.underlying109 Tryz.underlying5 0 0 9 Tryz.underlying9
      go_enter Tryz.func310, Tryz.ntmps310
      go_wp2_with fail
      go_ret
      refine ⟨rfl, ⟨hB, ?_⟩, (Kp.refl _ _).setCell (.inl (by simp)) _⟩
      have e1 := heap_setCell_same w R 0 _ 418 (.slice none 0 0) H.out
      rw [e1]; rfl
  | some l, h =>
    obtain ⟨hB, a, cap, hb, hv, hc1, hc2⟩ := h
    obtain ⟨c0, c1, f0, f1⟩ := rd_cells hb
    have H := hide hb
    have HV := hide hv
    clear hb hv
    by_cases hlt : l.length < n
    · have e : textF (some l) n = ([], none) := by simp [textF, hlt]
      rw [e]
      clear e
      go_enter Tryz.func310, Tryz.ntmps310
      go_wp2_with fail
      refine (fail_any R B hB _ _ w H.out).mono ?_
      rintro e w1 ⟨rfl, hr1, hk1⟩
      have HR1 := hide hr1
      clear hr1
      go_wp2_with fail
      go_ret
      exact ⟨rfl, HR1.out, hk1⟩
    · have e : textF (some l) n = (l.take n, some (l.drop n)) := by simp [textF, hlt]
      rw [e]
      clear e
      have hcv : (convert 109 9 (.slice a n cap)).run Tryz.prog w = .ok (.string ⟨(l.take n).toArray⟩) w := by
        have hv' : Vw w B a (l.take n) := by
          rcases HV.out with ⟨rfl, ha⟩ | ⟨g, off, ha, hg, hc⟩
          · exact .inl ⟨by simp, ha⟩
          · exact .inr ⟨g, off, ha, hg, fun j hj => by
              have hj' : j < l.length := by simp at hj; omega
              rw [hc j hj']; simp⟩
        have := conv_vw w B a (l.take n) hv' cap
        rw [List.length_take, Nat.min_eq_left (by omega)] at this
        exact this
      obtain ⟨m, hm⟩ : ∃ m, l.length = m := ⟨_, rfl⟩
      have Hm := hide hm
      rw [hm] at c0 hc1 hlt
      clear hm
      rcases HV.out with ⟨rfl, rfl⟩ | ⟨g, off, rfl, hg, hc⟩
      · have e0 : m = 0 := by have := Hm.out; simp at this; omega
        have e1 : n = 0 := by omega
        subst e0 e1
        go_enter Tryz.func310, Tryz.ntmps310
        go_wp2_with fail
        go_ret
        refine ⟨rfl, rd_put hB H.out rfl (.inl ⟨rfl, rfl⟩) (by simp) hc2, (Kp.refl _ _).setCell (.inl (by simp)) _⟩
      · have HC := hide hc
        clear hc
        go_enter Tryz.func310, Tryz.ntmps310
        go_wp2_with fail
        · go_ret
          have hl : l.length ≤ n := by have := Hm.out; omega
          refine ⟨rfl, rd_put hB H.out (by have := Hm.out; simp; omega) (.inr ⟨g, off, rfl, hg, fun j hj => by simp at hj; omega⟩) (by simp; omega) (by omega), (Kp.refl _ _).setCell (.inl (by simp)) _⟩
        · go_ret
          refine ⟨rfl, rd_put hB H.out (by have := Hm.out; simp; omega) (.inr ⟨g, off + n, rfl, hg, fun j hj => ?_⟩) (by have := Hm.out; simp; omega) (by omega), (Kp.refl _ _).setCell (.inl (by simp)) _⟩
          have hj' : n + j < l.length := by simp at hj; omega
          have := HC.out (n + j) hj'
          rw [← Nat.add_assoc] at this
          simpa using this
end Go.Proofs.YtbkepgmgebmceaaGreatDoor.Pak

namespace Go.Proofs.YtbkepgmgebmceaaGreatDoor.Pak
open Go.RowKit Go.Proofs.YtbkepgmgebmceaaGreatDoor Go.Proofs.YtbkepgmgebmceaaGreatDoor.Spl SiftM
set_option linter.unusedVariables false

def isWord (l : List UInt8) : Bool := decide (1 ≤ l.length) && decide (l.length ≤ 8) && l.all isSm

set_option maxHeartbeats 800000 in
set_option maxRecDepth 100000 in
theorem is_any (s : ByteArray) (w : World) (hs : s.size ≤ 2000000) :
    Calls Tryz.prog 360 #[.string s] w fun e w' => e = .returned (.bool (isWord s.data.toList)) ∧ w' = w := by
  have hsz : s.data.toList.length = s.size := by simp
  by_cases h1 : s.size < 1
  · have e : Hid (isWord s.data.toList = false) := by
      show _ = _; unfold isWord; rw [hsz]; simp; omega
    generalize isWord s.data.toList = r at *
    go_enter Tryz.func360, Tryz.ntmps360
    go_wp2_with fail
    go_ret
    exact ⟨ret_bool e.out.symm, rfl⟩
  · by_cases h2 : 8 < s.size
    · have e : Hid (isWord s.data.toList = false) := by
        show _ = _; unfold isWord; rw [hsz]; simp; omega
      generalize isWord s.data.toList = r at *
      go_enter Tryz.func360, Tryz.ntmps360
      go_wp2_with fail
      go_ret
      exact ⟨ret_bool e.out.symm, rfl⟩
    · have e : Hid (isWord s.data.toList = s.data.toList.all isSm) := by
        show _ = _; unfold isWord; rw [hsz]; simp; omega
      generalize isWord s.data.toList = r at *
      go_enter Tryz.func360, Tryz.ntmps360
      go_wp2_with fail
      go_loopw [14] (fun iv wr => ∃ k : Nat, k ≤ s.size ∧ iv = .int .i64 k ∧ (s.data.toList.take k).all isSm = true ∧ wr = w) (fun iv _ => s.size - (intOf iv).toNat)
      case atStart => exact ⟨0, by omega, rfl, by simp, rfl⟩
      case round =>
        obtain ⟨k, hk, rfl, ht, rfl⟩ := hrel
        by_cases hlt : k < s.size
        · have htk := hide (take_snoc s k hlt)
          have Ht := hide ht
          clear ht
          by_cases hsm : isSm s[k] = true
          · have hN := small_any s[k] wr
            rw [hsm] at hN
            have HN := hide hN
            have Hsm := hide hsm
            clear hN hsm
            go_wp2_with fail
            refine HN.out.mono ?_
            rintro e w1 ⟨rfl, rfl⟩
            go_wp2_with fail
            go_roundw
            case rel =>
              refine ⟨k + 1, by omega, by go_num, ?_, by trivial⟩
              rw [htk.out, List.all_append, Ht.out]; simp [Hsm.out]
            case measure => simp [intOf]; omega
          · have hsm' : isSm s[k] = false := by simpa using hsm
            have hN := small_any s[k] wr
            rw [hsm'] at hN
            have HN := hide hN
            have Hsm := hide hsm'
            clear hN hsm hsm'
            go_wp2_with fail
            refine HN.out.mono ?_
            rintro e w1 ⟨rfl, rfl⟩
            go_wp2_with fail
            go_ret
            refine ⟨ret_bool ?_, by trivial⟩
            rw [e.out]
            symm
            rw [List.all_eq_false]
            exact ⟨s[k], List.mem_of_mem_take (i := k + 1) (by rw [htk.out]; simp), by simp [Hsm.out]⟩
        · have ek : k = s.size := by omega
          subst ek
          have Ht := hide ht
          clear ht
          go_wp2_with fail
          go_ret
          refine ⟨ret_bool ?_, by trivial⟩
          rw [e.out]
          have := Ht.out
          rw [List.take_of_length_le (by rw [hsz]; omega)] at this
          exact this.symm
end Go.Proofs.YtbkepgmgebmceaaGreatDoor.Pak
