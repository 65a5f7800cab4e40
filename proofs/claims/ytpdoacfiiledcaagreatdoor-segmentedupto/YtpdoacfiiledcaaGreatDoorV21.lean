import Derived.Test.YtpdoacfiiledcaaGreatDoorV20
import Derived.Test.YtpdoacfiiledcaaGreatDoorV09
import Derived.Test.YtpdoacfiiledcaaGreatDoorV16
import Derived.Maps.RangeWalk
namespace Go.Proofs.YtpdoacfiiledcaaGreatDoor.Pak
open Go.RowKit Go.Proofs.YtpdoacfiiledcaaGreatDoor Go.Proofs.YtpdoacfiiledcaaGreatDoor.Spl SiftM Go.Maps
set_option linter.unusedVariables false
set_option maxRecDepth 8000

def bytes8 (s : Nat) : List Nat := [s % 256, s / 256 % 256, s / 65536 % 256, s / 16777216 % 256, s / 4294967296 % 256, s / 1099511627776 % 256, s / 281474976710656 % 256, s / 72057594037927936]
theorem bytes8_fld (s : Nat) : fld 8 (bytes8 s) = s := by
  simp only [bytes8, fld]
  omega
theorem bytes8_lt (s : Nat) (h : s < 18446744073709551616) : ∀ x ∈ bytes8 s, x < 256 := by
  intro x hx
  simp only [bytes8, List.mem_cons, List.mem_nil_iff, or_false] at hx
  rcases hx with rfl | rfl | rfl | rfl | rfl | rfl | rfl | rfl <;> omega

/-- The stages of the count. -/
structure Swar (s a1 a2 x1 b1 b2 x2 y x3 : Nat) : Prop where
  h1 : s / 2 &&& 6148914691236517205 = a1
  h2 : s &&& 6148914691236517205 = a2
  h3 : a1 + a2 = x1
  l1 : x1 < 18446744073709551616
  h4 : x1 / 4 &&& 3689348814741910323 = b1
  h5 : x1 &&& 3689348814741910323 = b2
  h6 : b1 + b2 = x2
  l2 : x2 < 18446744073709551616
  h7 : x2 / 16 + x2 = y
  l3 : y < 18446744073709551616
  h8 : y &&& 1085102592571150095 = x3
  h9 : x3 = fld 8 ((bytes8 s).map (Lib.popAux 8))
theorem swar (s : Nat) (hs : s < 18446744073709551616) : ∃ a1 a2 x1 b1 b2 x2 y x3, Swar s a1 a2 x1 b1 b2 x2 y x3 := by
  have hl := bytes8_lt s hs
  have hf := bytes8_fld s
  have hn : (bytes8 s).length = 8 := rfl
  generalize hB : bytes8 s = l at hl hf hn
  have e85 : (6148914691236517205 : Nat) = fld 8 (List.replicate l.length 85) := by rw [hn]; rfl
  have e51 : (3689348814741910323 : Nat) = fld 8 (List.replicate l.length 51) := by rw [hn]; rfl
  have e15 : (1085102592571150095 : Nat) = fld 8 (List.replicate l.length 15) := by rw [hn]; rfl
  have hrep : ∀ c, c < 256 → ∀ x ∈ List.replicate l.length c, x < 2 ^ 8 := fun c hc x hx => by rw [List.eq_of_mem_replicate hx]; exact hc
  have hst1 : ∀ x ∈ l.map st1, x < 2 ^ 8 := fun x hx => by
    obtain ⟨b, hb, rfl⟩ := List.mem_map.1 hx
    exact (m3 ⟨b, hl b hb⟩ ⟨0, by omega⟩).2.2.2.1
  have hst2 : ∀ x ∈ l.map (fun b => st2 (st1 b)), x < 2 ^ 8 := fun x hx => by
    obtain ⟨b, hb, rfl⟩ := List.mem_map.1 hx
    exact (m3 ⟨b, hl b hb⟩ ⟨0, by omega⟩).2.2.2.2.1
  have e1 : s / 2 = fld 8 (shr 1 l) := by rw [← hf]; exact fld_shr 1 (by omega) l
  have q1 := stage1 l hl
  have q2 := stage2 (l.map st1) hst1
  have q3 := stage3 l hl
  have hmm : (l.map st1).map st2 = l.map fun b => st2 (st1 b) := by rw [List.map_map]; rfl
  rw [hmm, List.length_map] at q2
  refine ⟨_, _, fld 8 (l.map st1), _, _, fld 8 (l.map fun b => st2 (st1 b)), fld 8 (List.zipWith (· + ·) (shr 4 (l.map fun b => st2 (st1 b))) (l.map fun b => st2 (st1 b))), _, rfl, rfl, ?_, ?_, rfl, rfl, ?_, ?_, ?_, ?_, rfl, ?_⟩
  · rw [e1, e85]
    conv => lhs; rhs; rw [← hf]
    rw [fld_and 8 _ _ (by rw [shr_len, List.length_replicate]) (shr_mem (by omega) hl) (hrep 85 (by omega)), fld_and 8 _ _ (by rw [List.length_replicate]) hl (hrep 85 (by omega)),
      fld_add 8 _ _ (by simp [shr_len]), q1]
  · have := fld_lt 8 _ hst1
    rw [List.length_map, hn] at this
    exact this
  · rw [show (4 : Nat) = 2 ^ 2 from rfl, fld_shr 2 (by omega), e51,
      fld_and 8 _ _ (by rw [shr_len, List.length_replicate, List.length_map]) (shr_mem (by omega) hst1) (hrep 51 (by omega)), fld_and 8 _ _ (by rw [List.length_replicate, List.length_map]) hst1 (hrep 51 (by omega)),
      fld_add 8 _ _ (by simp [shr_len]), q2]
  · have := fld_lt 8 _ hst2
    rw [List.length_map, hn] at this
    exact this
  · rw [show (16 : Nat) = 2 ^ 4 from rfl, fld_shr 4 (by omega), fld_add 8 _ _ (by rw [shr_len])]
  · have := fld_lt 8 _ q3.1
    rw [List.length_zipWith, shr_len, List.length_map, Nat.min_self, hn] at this
    exact this
  · rw [e15, fld_and 8 _ _ (by simp [shr_len]) q3.1 (hrep 15 (by omega)), q3.2, hB]
theorem pop_bytes (s : Nat) (hs : s < 18446744073709551616) : Lib.onesCount s = ((bytes8 s).map (Lib.popAux 8)).sum := by
  have hl := bytes8_lt s hs
  have : ∀ (l : List Nat), (∀ x ∈ l, x < 256) → Lib.popAux (8 * l.length) (fld 8 l) = (l.map (Lib.popAux 8)).sum := by
    intro l
    induction l with
    | nil => intro _; rfl
    | cons a l ih =>
      intro h
      have e : 8 * (a :: l).length = 8 + 8 * l.length := by simp; omega
      rw [e, fld, pop_split 8 _ a _ (h a (by simp)), ih fun x hx => h x (by simp [hx])]
      simp
  have h2 := this (bytes8 s) hl
  rw [bytes8_fld] at h2
  exact h2
/-- The last additions. -/
theorem swar_sum (p0 p1 p2 p3 p4 p5 p6 p7 x3 x4 x5 x6 : Nat) (h0 : p0 ≤ 8) (h1 : p1 ≤ 8) (h2 : p2 ≤ 8) (h3 : p3 ≤ 8) (h4 : p4 ≤ 8) (h5 : p5 ≤ 8) (h6 : p6 ≤ 8) (h7 : p7 ≤ 8) (e3 : x3 = fld 8 [p0, p1, p2, p3, p4, p5, p6, p7]) (e4 : x4 = x3 + x3 / 256) (e5 : x5 = x4 + x4 / 65536) (e6 : x6 = x5 + x5 / 4294967296) :
    x6 % 128 = p0 + p1 + p2 + p3 + p4 + p5 + p6 + p7 ∧ x6 < 9223372036854775808 := by
  simp only [fld] at e3
  have d3 : x3 / 256 = p1 + 256 * (p2 + 256 * (p3 + 256 * (p4 + 256 * (p5 + 256 * (p6 + 256 * p7))))) := by omega
  have f4 : x4 = (p0 + p1) + 256 * ((p1 + p2) + 256 * ((p2 + p3) + 256 * ((p3 + p4) + 256 * ((p4 + p5) + 256 * ((p5 + p6) + 256 * ((p6 + p7) + 256 * p7)))))) := by omega
  clear e4 d3 e3
  have d4 : x4 / 65536 = (p2 + p3) + 256 * ((p3 + p4) + 256 * ((p4 + p5) + 256 * ((p5 + p6) + 256 * ((p6 + p7) + 256 * p7)))) := by omega
  have f5 : x5 = (p0 + p1 + p2 + p3) + 256 * ((p1 + p2 + p3 + p4) + 256 * ((p2 + p3 + p4 + p5) + 256 * ((p3 + p4 + p5 + p6) + 256 * ((p4 + p5 + p6 + p7) + 256 * ((p5 + p6 + p7) + 256 * ((p6 + p7) + 256 * p7)))))) := by omega
  clear e5 d4 f4
  have d5 : x5 / 4294967296 = (p4 + p5 + p6 + p7) + 256 * ((p5 + p6 + p7) + 256 * ((p6 + p7) + 256 * p7)) := by omega
  omega

theorem i64_and_nat (a b : Nat) (ha : a < 9223372036854775808) (hb : b < 9223372036854775808) : bits .and .i64 (a : Int) (b : Int) = ((a &&& b : Nat) : Int) := by
  have hx : a &&& b ≤ a := Nat.and_le_left
  show IntKind.i64.wrap ((BitVec.ofInt 64 (a : Int) &&& BitVec.ofInt 64 (b : Int)).toNat : Int) = _
  rw [BitVec.toNat_and, ofInt_i64 a ha, ofInt_i64 b hb]
  exact IntWalk.i64_in _ ⟨by omega, by omega⟩

set_option maxHeartbeats 1000000 in
theorem ones_any (s : Nat) (w : World) (hs : s < 18446744073709551616) :
    Calls Tryz.prog 370 #[.int .u64 (s : Int)] w fun e w' => e = .returned (.int .i64 ((Lib.onesCount s : Nat) : Int)) ∧ w' = w := by
  obtain ⟨a1, a2, x1, b1, b2, x2, y, x3, h⟩ := swar s hs
  have ha1 : a1 < 18446744073709551616 := by have := h.h3; have := h.l1; omega
  have ha2 : a2 < 18446744073709551616 := by have := h.h3; have := h.l1; omega
  have hb1 : b1 < 18446744073709551616 := by have := h.h6; have := h.l2; omega
  have hb2 : b2 < 18446744073709551616 := by have := h.h6; have := h.l2; omega
  have hx3 : x3 < 18446744073709551616 := by rw [← h.h8]; have := Nat.and_le_left (n := y) (m := 1085102592571150095); have := h.l3; omega
  obtain ⟨x4, e4⟩ : ∃ x4, x4 = x3 + x3 / 256 := ⟨_, rfl⟩
  obtain ⟨x5, e5⟩ : ∃ x5, x5 = x4 + x4 / 65536 := ⟨_, rfl⟩
  obtain ⟨x6, e6⟩ : ∃ x6, x6 = x5 + x5 / 4294967296 := ⟨_, rfl⟩
  have hpop : ∀ b, b < 256 → Lib.popAux 8 b ≤ 8 := fun b hb => (m3 ⟨b, hb⟩ ⟨0, by omega⟩).2.2.2.2.2
  have hl := bytes8_lt s hs
  have hsum := swar_sum _ _ _ _ _ _ _ _ x3 x4 x5 x6 (hpop _ (hl (s % 256) (by simp [bytes8]))) (hpop _ (hl (s / 256 % 256) (by simp [bytes8]))) (hpop _ (hl (s / 65536 % 256) (by simp [bytes8]))) (hpop _ (hl (s / 16777216 % 256) (by simp [bytes8]))) (hpop _ (hl (s / 4294967296 % 256) (by simp [bytes8]))) (hpop _ (hl (s / 1099511627776 % 256) (by simp [bytes8]))) (hpop _ (hl (s / 281474976710656 % 256) (by simp [bytes8]))) (hpop _ (hl (s / 72057594037927936) (by simp [bytes8]))) h.h9 e4 e5 e6
  have hcnt : Lib.onesCount s = x6 % 128 := by
    rw [pop_bytes s hs, hsum.1]
    simp only [bytes8, List.map_cons, List.map_nil, List.sum_cons, List.sum_nil]
    omega
  have hx6 := hsum.2
  rw [hcnt]
  have f1 : bits .and .u64 ((s : Int) / 2) 6148914691236517205 = (a1 : Int) := by
    rw [show ((s : Int) / 2) = ((s / 2 : Nat) : Int) by omega, show (6148914691236517205 : Int) = ((6148914691236517205 : Nat) : Int) from rfl, u64_and_nat _ _ (by omega) (by omega), h.h1]
  have f2 : bits .and .u64 (s : Int) 6148914691236517205 = (a2 : Int) := by
    rw [show (6148914691236517205 : Int) = ((6148914691236517205 : Nat) : Int) from rfl, u64_and_nat _ _ hs (by omega), h.h2]
  have f3 : IntKind.u64.wrap ((a1 : Int) + (a2 : Int)) = (x1 : Int) := by rw [show (a1 : Int) + (a2 : Int) = ((a1 + a2 : Nat) : Int) by omega, h.h3, wrap_u64 _ h.l1]
  have f4 : bits .and .u64 ((x1 : Int) / 4) 3689348814741910323 = (b1 : Int) := by
    rw [show ((x1 : Int) / 4) = ((x1 / 4 : Nat) : Int) by omega, show (3689348814741910323 : Int) = ((3689348814741910323 : Nat) : Int) from rfl, u64_and_nat _ _ (by have := h.l1; omega) (by omega), h.h4]
  have f5 : bits .and .u64 (x1 : Int) 3689348814741910323 = (b2 : Int) := by
    rw [show (3689348814741910323 : Int) = ((3689348814741910323 : Nat) : Int) from rfl, u64_and_nat _ _ h.l1 (by omega), h.h5]
  have f6 : IntKind.u64.wrap ((b1 : Int) + (b2 : Int)) = (x2 : Int) := by rw [show (b1 : Int) + (b2 : Int) = ((b1 + b2 : Nat) : Int) by omega, h.h6, wrap_u64 _ h.l2]
  have f7 : IntKind.u64.wrap ((x2 : Int) / 16 + (x2 : Int)) = (y : Int) := by rw [show (x2 : Int) / 16 + (x2 : Int) = ((x2 / 16 + x2 : Nat) : Int) by omega, h.h7, wrap_u64 _ h.l3]
  have f8 : bits .and .u64 (y : Int) 1085102592571150095 = (x3 : Int) := by
    rw [show (1085102592571150095 : Int) = ((1085102592571150095 : Nat) : Int) from rfl, u64_and_nat _ _ h.l3 (by omega), h.h8]
  have f9 : IntKind.u64.wrap ((x3 : Int) + (x3 : Int) / 256) = (x4 : Int) := by rw [show (x3 : Int) + (x3 : Int) / 256 = ((x4 : Nat) : Int) by omega, wrap_u64 _ (by omega)]
  have f10 : IntKind.u64.wrap ((x4 : Int) + (x4 : Int) / 65536) = (x5 : Int) := by rw [show (x4 : Int) + (x4 : Int) / 65536 = ((x5 : Nat) : Int) by omega, wrap_u64 _ (by omega)]
  have f11 : IntKind.u64.wrap ((x5 : Int) + (x5 : Int) / 4294967296) = (x6 : Int) := by rw [show (x5 : Int) + (x5 : Int) / 4294967296 = ((x6 : Nat) : Int) by omega, wrap_u64 _ (by omega)]
  clear hsum hpop hl h hcnt e4 e5 e6
  have f12 : bits .and .i64 (x6 : Int) 127 = ((x6 % 128 : Nat) : Int) := by
    rw [show (127 : Int) = ((127 : Nat) : Int) from rfl, i64_and_nat x6 127 hx6 (by omega), show (127 : Nat) = 2 ^ 7 - 1 from rfl, Nat.and_two_pow_sub_one_eq_mod]
  go_enter Tryz.func370, Tryz.ntmps370
  go_wp2_with fail
  go_ret
  exact ⟨rfl, rfl⟩
set_option maxHeartbeats 400000 in
theorem setLen_any (s : Nat) (w : World) (hs : s < 18446744073709551616) :
    Calls Tryz.prog 303 #[.int .u64 (s : Int)] w fun e w' => e = .returned (.int .i64 ((Lib.onesCount s : Nat) : Int)) ∧ w' = w := by
  go_enter Tryz.func303, Tryz.ntmps303
  go_wp2_with fail
  refine (ones_any s _ hs).mono ?_
  rintro e w1 ⟨rfl, rfl⟩
  go_wp2_with fail
  go_ret
  exact ⟨rfl, rfl⟩
end Go.Proofs.YtpdoacfiiledcaaGreatDoor.Pak

namespace Go.Proofs.YtpdoacfiiledcaaGreatDoor.Pak
open Go.RowKit Go.Proofs.YtpdoacfiiledcaaGreatDoor Go.Proofs.YtpdoacfiiledcaaGreatDoor.Spl SiftM Go.Maps
set_option linter.unusedVariables false
set_option linter.unusedSimpArgs false
set_option maxRecDepth 8000

theorem same_string {l : Lit} {b : List UInt8} (h : l.sameKey (.string b) = true) : l = .string b := by
  cases l <;> simp [Lit.sameKey] at h
  rw [h]
theorem string_same {l : Lit} {b : List UInt8} (h : (Lit.string b).sameKey l = true) : l = .string b := by
  cases l <;> simp [Lit.sameKey] at h
  rw [h]
/-- A map with as many entries as these keys has no others. -/
theorem map_only {D : DataW Unit} {c : Nat} {f : Nat → Nat → Option Nat} {w : World} {M : Nat} (hown : w.ownsMap Tryz.prog 410 (plainElem Tryz.prog 3) M c D) (hsz : Maps.size D = c) (hhas : ∀ d p, d ≤ 1099511627776 → p ≤ 1099511627776 → Maps.has D (key d p) = (f d p).isSome)
    (K : List (Nat × Nat)) (hK : K.Nodup) (hlen : K.length = c) (hb : ∀ x ∈ K, x.1 ≤ 1099511627776 ∧ x.2 ≤ 1099511627776 ∧ (f x.1 x.2).isSome = true) (kl : Lit) (hk : Maps.has D kl = true) : ∃ x ∈ K, kl = key x.1 x.2 := by
  obtain ⟨es, rfl, hap, _⟩ := hown.entries spotK
  have hin : ∀ x ∈ K, key x.1 x.2 ∈ es.map Prod.fst := by
    intro x hx
    obtain ⟨h1, h2, h3⟩ := hb x hx
    have := hhas x.1 x.2 h1 h2
    rw [h3, Maps.has_eq, List.any_eq_true] at this
    obtain ⟨e, he, hs⟩ := this
    exact List.mem_map.2 ⟨e, he, same_string hs⟩
  have hkn : (K.map fun x => key x.1 x.2).Nodup := St.map_nodup _ K hK fun x hx y hy e => by
    obtain ⟨a1, a2, _⟩ := hb x hx
    obtain ⟨b1, b2, _⟩ := hb y hy
    obtain ⟨e1, e2⟩ := key_inj a1 a2 b1 b2 e
    exact Prod.ext e1 e2
  rw [Maps.has_eq, List.any_eq_true] at hk
  obtain ⟨e, he, hs⟩ := hk
  have hmem : e.1 ∈ K.map fun x => key x.1 x.2 := by
    apply Classical.byContradiction
    intro hn
    have h1 : (e.1 :: K.map fun x => key x.1 x.2).Nodup := List.pairwise_cons.2 ⟨fun z hz e' => hn (e' ▸ hz), hkn⟩
    have h2 := St.sub_len _ (es.map Prod.fst) h1 (fun z hz => by
      rcases List.mem_cons.1 hz with rfl | hz
      · exact List.mem_map.2 ⟨e, he, rfl⟩
      · obtain ⟨x, hx, rfl⟩ := List.mem_map.1 hz
        exact hin x hx)
    rw [Maps.size_eq] at hsz
    simp only [List.length_cons, List.length_map] at h2
    omega
  obtain ⟨x, hx, e'⟩ := List.mem_map.1 hmem
  refine ⟨x, hx, ?_⟩
  rw [← e'] at hs
  exact string_same hs

/-- The places of the words of some docs. -/
def spots (rows : List (List Nat)) : Nat → List (Nat × Nat)
  | 0 => []
  | d + 1 => spots rows d ++ (List.range (rows.getD d []).length).map fun p => (d, p)
theorem spots_len (rows : List (List Nat)) : ∀ d, (spots rows d).length = cntTo rows d
  | 0 => rfl
  | d + 1 => by simp [spots, cntTo, spots_len rows d]
theorem spots_mem (rows : List (List Nat)) : ∀ (n : Nat) (x : Nat × Nat), x ∈ spots rows n → x.1 < n ∧ x.2 < (rows.getD x.1 []).length
  | 0, x, h => by simp [spots] at h
  | n + 1, x, h => by
    rcases List.mem_append.1 h with h | h
    · have := spots_mem rows n x h; exact ⟨by omega, this.2⟩
    · obtain ⟨p, hp, rfl⟩ := List.mem_map.1 h
      exact ⟨by simp, List.mem_range.1 hp⟩
theorem spots_nodup (rows : List (List Nat)) : ∀ n, (spots rows n).Nodup
  | 0 => List.Pairwise.nil
  | n + 1 => by
    show (spots rows n ++ _).Pairwise (· ≠ ·)
    rw [List.pairwise_append]
    refine ⟨spots_nodup rows n, ?_, fun a ha b hb => ?_⟩
    · exact St.map_nodup _ _ List.nodup_range fun x _ y _ e => by simpa using e
    · obtain ⟨p, hp, rfl⟩ := List.mem_map.1 hb
      have := (spots_mem rows n a ha).1
      intro e; rw [e] at this; simp at this

theorem info121 : (Tryz.prog.info? 124).map (fun i => (i.zero, i.size, i.bytes)) = some (some (.int .u64 0), 1, 8) := by kernel_rfl
/-- Sets, one behind the other. -/
def SetsOk (n : Nat) (cs : Array Value) : Prop := cs.size = n ∧ ∀ i, i < n → ∃ x : Nat, x < 18446744073709551616 ∧ cs[i]? = some (.int .u64 (x : Int))
theorem make_sets (c : Nat) (w : World) (hc : c ≤ 1000000) : ∃ cs, (Instr.makeSlice 324 (.int .i64 c) (.int .i64 c)).run Tryz.prog w = .ok (.slice (some ⟨w.heap.size, 0, none⟩) c c) (w.alloc (.cells cs 124)) ∧ SetsOk c cs := by
  obtain ⟨i0, hi, hz0, hz1, hz2⟩ := info_parts info121
  have := run_make (P := Tryz.prog) w 324 124 i0 (.int .u64 0) Tryz.underlying324 hi hz0 .i64 .i64 c c (by omega) (by omega) (by rw [hz2]; omega) (by omega)
  rw [hz1] at this
  simp only [Int.toNat_natCast, Nat.mul_one] at this
  refine ⟨_, this, ?_, fun i hi => ⟨0, by omega, ?_⟩⟩
  · simp [size_madeCells]
  · have e : (Value.int .u64 0).cells = #[.int .u64 0] := rfl
    rw [e]
    simp [madeCells, hi, Nat.mod_one]

theorem keyed_inj {P : Program} {k : TypeId} (K : Keyed P k) {a b : Value} {l : Lit} (ha : keyOf P k a = some l) (hb : keyOf P k b = some l) : a = b := K.inj ha hb

section
variable {ops : Array Oper} {rest : List Oper} {o : Oper} {a : Act} {Q : Exit → Act → World → Prop}
/-- A step of a loop over the places of a table. -/
theorem next_spots (w : World) (hg : o.guard = none) (it : Operand) (hop : o.op = Op.next it false) (M r c : Nat) (D : DataW Unit) (left : Lit → Bool) (cnt : Nat) (hit : a.eval it = .pointer (some ⟨r, 0, none⟩))
    (h : w.ranges Tryz.prog 410 (plainElem Tryz.prog 3) M r c D left cnt) (hl : ∀ kl, left kl = true → Maps.has D kl = true) (f : Nat → Nat → Option Nat)
    (hsz : Maps.size D = c) (hhas : ∀ d p, d ≤ 1099511627776 → p ≤ 1099511627776 → Maps.has D (key d p) = (f d p).isSome)
    (hat : ∀ d p, d ≤ 1099511627776 → p ≤ 1099511627776 → ∀ v, f d p = some v → D.atKey (key d p) (.lit (.int .i64 0)) = .lit (.int .i64 (v : Int)))
    (K : List (Nat × Nat)) (hK : K.Nodup) (hlen : K.length = c) (hb : ∀ x ∈ K, x.1 ≤ 1099511627776 ∧ x.2 ≤ 1099511627776 ∧ (f x.1 x.2).isSome = true)
    (hDone : wpList Tryz.prog ops Q rest (a.put o.dst (.tuple #[.bool false])) w)
    (hMore : ∀ (d p v : Nat) (w' : World) (left' : Lit → Bool) (cnt' : Nat), (d, p) ∈ K → f d p = some v → w'.ranges Tryz.prog 410 (plainElem Tryz.prog 3) M r c D left' cnt' → (∀ kl, left' kl = true → Maps.has D kl = true) → cnt' < cnt →
      w.grownBy w' (some r) → w'.heap.size = w.heap.size → (Instr.entry (.pointer (some ⟨r, 0, none⟩))).run Tryz.prog w' = .ok (.tuple #[.agg #[.int .i64 (d : Int), .int .i64 (p : Int)], .int .i64 (v : Int)]) w' →
      wpList Tryz.prog ops Q rest (a.put o.dst (.tuple #[.bool true, .agg #[.int .i64 (d : Int), .int .i64 (p : Int)], .int .i64 (v : Int)])) w') :
    wpList Tryz.prog ops Q (o :: rest) a w := by
  refine wpList_next_ranges w hg it hop 410 spotK (plainElem Tryz.prog 3) (fun v : Value => v) (Value.int .i64) (fun key kl _ => ⟨key, rfl⟩) (fun v y hv => by obtain ⟨c, rfl, _⟩ := plainElem_int_inv Tryz.underlying3 hv; exact ⟨c, rfl⟩)
    M r c D left cnt hit h (fun _ _ => hDone) fun x e kl y w' cnt' hkey hlk hv hat' hrg hlt hgr hsz' hen => ?_
  obtain ⟨⟨d, p⟩, hmem, rfl⟩ := map_only h.owns hsz hhas K hK hlen hb kl (hl kl hlk)
  obtain ⟨b1, b2, b3⟩ := hb _ hmem
  obtain ⟨v, hf⟩ := Option.isSome_iff_exists.1 b3
  have hx := keyed_inj spotK hkey (keyOf_spot d p b1 b2)
  subst hx
  obtain ⟨e', ee, rfl, _⟩ := plainElem_int_inv Tryz.underlying3 hv
  cases ee
  have hev := (hat' (.lit (.int .i64 0))).symm.trans (hat d p b1 b2 v hf)
  injection hev with hev
  injection hev with _ hev
  subst hev
  exact hMore d p v w' _ cnt' hmem hf hrg (fun kl hk => hl kl (by simp at hk; exact hk.1)) hlt hgr hsz' hen
end

set_option maxHeartbeats 2000000 in
theorem havingOf_any (M n nt ci ct : Nat) (ai at' : Option Addr) (rows : List (List Nat)) (w : World) (hm : MapIs w M (cntTo rows rows.length) (upTo rows rows.length 0)) (hn : rows.length ≤ 60) (hr : ∀ r ∈ rows, r.length ≤ 60 ∧ ∀ x ∈ r, x < nt) (hnt : nt ≤ 100000) :
    Calls Tryz.prog 223 #[.agg #[.slice ai n ci, .slice at' nt ct, .map (some M)]] w fun e w' => ∃ H, e = .returned (.slice (some ⟨H, 0, none⟩) nt nt) ∧ Kp [] w w' := by
  obtain ⟨W, hW⟩ : ∃ W, w.alloc (.cells #[.slice ai n ci, .slice at' nt ct, .map (some M)] 316) = W := ⟨_, rfl⟩
  have k0 : Kp [] w W := by rw [← hW]; exact (Kp.refl _ _).alloc _
  have hsW : w.heap.size < W.heap.size := by rw [← hW]; simp
  have hT : W.heap[w.heap.size]? = some (.cells #[.slice ai n ci, .slice at' nt ct, .map (some M)] 316 (0, 0)) := by rw [← hW]; exact heap_alloc_new w _
  obtain ⟨cs0, hmk, hcs0⟩ := make_sets nt W (by omega)
  obtain ⟨W2, hW2⟩ : ∃ W2, W.alloc (.cells cs0 124) = W2 := ⟨_, rfl⟩
  rw [hW2] at hmk
  have k2 : Kp [] W W2 := by rw [← hW2]; exact (Kp.refl _ _).alloc _
  have hs2 : W.heap.size < W2.heap.size := by rw [← hW2]; simp
  have hH2 : W2.heap[W.heap.size]? = some (.cells cs0 124 (0, 0)) := by rw [← hW2]; exact heap_alloc_new W _
  obtain ⟨D, hown, hszD, hhas, hat⟩ := hm
  have k02 : Kp [] w W2 := k0.next k2
  have hownW := World.ownsMap.kept hown (row := none) (w' := W2) ⟨k02.os, k02.tape, k02.output, k02.size, fun i hi _ => k02.block i hi (by simp)⟩ (by simp)
  have HO := hide hownW
  have HCS := hide hcs0
  have HHA := hide hhas
  have HAT := hide hat
  have HK := hide hH2
  obtain ⟨t0, t1, t2, _, _, _⟩ := tb_cells hT
  have u2 := k2.cellv t2 (by simp)
  have hrowsF : ∀ x ∈ spots rows rows.length, x.1 ≤ 1099511627776 ∧ x.2 ≤ 1099511627776 ∧ (upTo rows rows.length 0 x.1 x.2).isSome = true := by
    intro x hx
    obtain ⟨h1, h2⟩ := spots_mem rows rows.length x hx
    have h3 : rows.getD x.1 [] = rows[x.1] := by simp [List.getD, h1]
    have h4 := hr rows[x.1] (List.getElem_mem h1)
    rw [h3] at h2
    refine ⟨by omega, by omega, ?_⟩
    simp [upTo, h1, h2]
  have HRF := hide hrowsF
  clear hownW hcs0 hhas hat hH2 hrowsF hown
  go_enter Tryz.func223, Tryz.ntmps223
  go_wp2_with (first
    | (at_range; refine wpList_range_own _ rfl _ 314 rfl 410 3 spotK Tryz.underlying314 _ M _ _ rfl HO.out ?_; intro w0 hrg0 hg0 hs0)
    | fail)
  go_frame
  go_loopw [4, 5] (fun _ _ wr => ∃ (left : Lit → Bool) (cnt : Nat) (cs : Array Value), wr.ranges Tryz.prog 410 (plainElem Tryz.prog 3) M W2.heap.size (cntTo rows rows.length) D left cnt ∧ (∀ kl, left kl = true → Maps.has D kl = true) ∧ Kp [] w wr ∧ wr.heap[W.heap.size]? = some (.cells cs 124 (0, 0)) ∧ SetsOk nt cs) (fun _ _ wr => wr.rangeLeft M W2.heap.size)
  case atStart => exact ⟨_, _, cs0, hrg0, fun _ h => h, k02.grown hg0 (by simp), (hg0.block _ hs2 (by simp)).trans HK.out, HCS.out⟩
  case round =>
    obtain ⟨left, cnt, cs, hrg, hl, kr, hH, hcs⟩ := hrel
    have HH := hide hH
    have HC := hide hcs
    clear hH hcs
    go_wp2_with (first
      | (at_next; refine next_spots _ rfl _ rfl M W2.heap.size _ D _ _ rfl hrg hl (upTo rows rows.length 0) hszD HHA.out HAT.out (spots rows rows.length) (spots_nodup rows _) (spots_len rows _) HRF.out ?_ ?_)
      | fail)
    · go_wp2
      go_ret
      exact ⟨_, rfl, kr⟩
    · intro d p v w1 left1 cnt1 hmem hf hrg1 hl1 hlt1 hg1 hs1 hen
      obtain ⟨hd1, hp1⟩ := spots_mem rows rows.length _ hmem
      have hd1 : d < rows.length := hd1
      have hvn : v < nt := by
        have hf' := hf
        simp only [upTo, hd1, true_or, if_true, List.getElem?_eq_getElem, Option.bind_some] at hf'
        exact (hr _ (List.getElem_mem hd1)).2 v (List.mem_of_getElem? hf')
      have hH1 : w1.heap[W.heap.size]? = some (.cells cs 124 (0, 0)) := (hg1.block _ (by have := (Array.getElem?_eq_some_iff.1 HH.out).1; exact this) (by simp; omega)).trans HH.out
      have hsr : W.heap.size < w1.heap.size := (Array.getElem?_eq_some_iff.1 hH1).1
      have kr1 : Kp [] w w1 := kr.grown hg1 (fun k hk => by simp at hk; right; omega)
      obtain ⟨W3, hW3⟩ : ∃ W3, w1.alloc (.cells #[.int .i64 (d : Int), .int .i64 (p : Int)] 410) = W3 := ⟨_, rfl⟩
      have k3 : Kp [] w1 W3 := by rw [← hW3]; exact (Kp.refl _ _).alloc _
      have hs3 : W3.heap.size = w1.heap.size + 1 := by rw [← hW3]; simp
      have hT3 : W3.heap[w1.heap.size]? = some (.cells #[.int .i64 (d : Int), .int .i64 (p : Int)] 410 (0, 0)) := by rw [← hW3]; exact heap_alloc_new w1 _
      have hH3 := k3.heap hH1 (by simp)
      obtain ⟨x, hx, hcx⟩ := HC.out.2 v hvn
      have cx : W3.cell? ⟨W.heap.size, v, none⟩ = some (.int .u64 (x : Int)) := by simp [World.cell?, hH3, hcx]
      have cz : W3.frozen? ⟨W.heap.size, v, none⟩ = false := by simp [World.frozen?, hH3]
      have e0 : W3.cell? ⟨wr.heap.size, 0, none⟩ = some (.int .i64 (d : Int)) := by rw [← hs1]; simp [World.cell?, hT3]
      have hi0 : (0 : Int) ≤ (v : Int) := by omega
      have hi1 : (v : Int) < (nt : Int) := by omega
      have hne : wr.heap.size ≠ W.heap.size := by omega
      have hrg3 := hide (hrg1.kept (w' := W3) (row := none) ⟨k3.os, k3.tape, k3.output, k3.size, fun i hi _ => k3.block i hi (by simp)⟩ (by simp) (by simp))
      have HH3 := hide hH3
      clear hH1 hT3 hH3
      have ks : Kp [W.heap.size] W3 (W3.setCell ⟨W.heap.size, v, none⟩ (.int .u64 ((x ||| 2 ^ d : Nat) : Int))) := (Kp.refl _ _).setCell (.inl (by simp)) _
      have hxd : x ||| 2 ^ d < 18446744073709551616 := Nat.or_lt_two_pow (n := 64) hx (Nat.pow_lt_pow_right (by omega) (by omega))
      obtain ⟨W5, hW5⟩ : ∃ W5, (W3.setCell ⟨W.heap.size, v, none⟩ (.int .u64 ((x ||| 2 ^ d : Nat) : Int))).drew = W5 := ⟨_, rfl⟩
      have ks5 : Kp [W.heap.size] W3 W5 := by rw [← hW5]; exact ks.drewN 1
      have hH5 : W5.heap[W.heap.size]? = some (.cells (cs.setIfInBounds v (.int .u64 ((x ||| 2 ^ d : Nat) : Int))) 124 (0, 0)) := by
        rw [← hW5]; exact heap_setCell_same W3 W.heap.size v cs 124 _ HH3.out
      have hC5 : SetsOk nt (cs.setIfInBounds v (.int .u64 ((x ||| 2 ^ d : Nat) : Int))) := by
        refine ⟨by simp [HC.out.1], fun i hi => ?_⟩
        by_cases hiv : v = i
        · subst hiv
          exact ⟨_, hxd, by rw [Array.getElem?_setIfInBounds_self_of_lt (by rw [HC.out.1]; exact hi)]⟩
        · rw [Array.getElem?_setIfInBounds_ne hiv]
          exact HC.out.2 i hi
      have hMne : M ≠ W.heap.size := by
        intro e
        have h1 := hrg3.out.owns
        obtain ⟨es, cl, h2, _⟩ := h1
        rw [e, HH3.out] at h2; simp at h2
      have hrg5 := hrg3.out.kept (w' := W5) (row := some W.heap.size) ⟨ks5.os, ks5.tape, ks5.output, ks5.size, fun i hi hne' => ks5.block i hi (by simpa using hne')⟩ (by simpa using hMne) (by simp; omega)
      have kw5 : Kp [] w W5 := (kr1.next k3).trans ks5 (by simp; omega)
      have hfin : Hid (∃ (left : Lit → Bool) (cnt : Nat) (cs : Array Value), W5.ranges Tryz.prog 410 (plainElem Tryz.prog 3) M W2.heap.size (cntTo rows rows.length) D left cnt ∧ (∀ kl, left kl = true → Maps.has D kl = true) ∧ Kp [] w W5 ∧ W5.heap[W.heap.size]? = some (.cells cs 124 (0, 0)) ∧ SetsOk nt cs) := hide ⟨_, _, _, hrg5, hl1, kw5, hH5, hC5⟩
      have hme : Hid (W5.rangeLeft M W2.heap.size < wr.rangeLeft M W2.heap.size) := hide (by rw [hrg5.left_eq, hrg.left_eq]; exact hlt1)
      clear hH5 hC5 hrg5 kw5 ks5 ks hMne
      go_wp2_with fail
      go_region_with (go_at_call 150; refine (with_any x d W3.drew hx (by omega)).mono ?_; rintro r w4 ⟨rfl, rfl⟩)
      all_goals
        try rw [hW5]
        go_wp2_with fail
        go_roundw
        case rel => exact hfin.out
        case measure => exact hme.out
end Go.Proofs.YtpdoacfiiledcaaGreatDoor.Pak

namespace Go.Proofs.YtpdoacfiiledcaaGreatDoor.Pak
open Go.RowKit Go.Proofs.YtpdoacfiiledcaaGreatDoor Go.Proofs.YtpdoacfiiledcaaGreatDoor.Spl SiftM Go.Maps
set_option linter.unusedVariables false
set_option linter.unusedSimpArgs false
set_option maxRecDepth 8000

theorem slot_mono {a b : UInt8} (ha : St.Sm a) (hb : St.Sm b) (h : a < b) : St.slot a < St.slot b := by
  have h' : a.toNat < b.toNat := UInt8.lt_iff_toNat_lt.1 h
  unfold St.slot
  unfold St.Sm at ha hb
  split <;> split <;> omega
theorem sw_lt : ∀ {t u : List UInt8}, St.Small t → St.Small u → t < u → St.wlt (St.sw t) (St.sw u)
  | [], [], _, _, h => by simp at h
  | [], _ :: _, _, _, _ => trivial
  | _ :: _, [], _, _, h => by simp at h
  | a :: t, b :: u, ht, hu, h => by
    rcases List.cons_lt_cons_iff.1 h with h1 | ⟨rfl, h1⟩
    · exact .inl (slot_mono (ht a (by simp)) (hu b (by simp)) h1)
    · exact .inr ⟨rfl, sw_lt (fun c hc => ht c (by simp [hc])) (fun c hc => hu c (by simp [hc])) h1⟩
theorem sm_of {c : UInt8} (h : isSm c = true) : St.Sm c := by
  unfold isSm at h
  unfold St.Sm
  simp at h
  omega
theorem fine_small (T : List Tx) (hf : Fine T) : ∀ t ∈ termsOf T, St.Small t := by
  intro x hx c hc
  obtain ⟨t, ht, hxt⟩ := (allW_iff T x).1 ((terms_mem T x).1 hx)
  have := hf.word t ht x hxt
  unfold isWord at this
  simp only [Bool.and_eq_true, List.all_eq_true] at this
  exact sm_of (this.2 c hc)
theorem fine_srt (T : List Tx) (hf : Fine T) : St.Srt ((termsOf T).map St.sw) := by
  unfold St.Srt
  rw [List.pairwise_map]
  exact (terms_pw T).imp_of_mem fun ha hb h => sw_lt (fine_small T hf _ ha) (fine_small T hf _ hb) h
theorem fine_rows (T : List Tx) (hf : Fine T) : ∀ r ∈ rowsOf T, r.length ≤ 60 ∧ ∀ x ∈ r, x < (termsOf T).length := by
  intro r hr
  refine ⟨?_, rows_lt T r hr⟩
  unfold rowsOf at hr
  obtain ⟨t, ht, rfl⟩ := List.mem_map.1 hr
  simp only [List.length_map]
  exact hf.few t ht

/-- A segment of these docs lies at P, all that belongs to it between B and E. -/
structure SegIs (w : World) (B E P num : Nat) (T : List Tx) (iv tv : Value) (M : Nat) : Prop where
  cells : ∃ M2 aa ca st H, w.heap[P]? = some (.cells #[.int .i64 (num : Int), iv, tv, .map (some M), .map (some M2), .slice aa ((St.refSets (termsOf T)).length + 1) ca, .int .i64 st, .slice (some ⟨H, 0, none⟩) (termsOf T).length (termsOf T).length, .int .i64 (((bodyT T).length + 4 : Nat) : Int)] 327 (0, 0))
  ids : w.ownsRow B 3 1 iv T.length (intV (T.map Prod.fst))
  terms : w.ownsRow B 9 1 tv (termsOf T).length (strV (termsOf T))
  at' : MapIs w M (cntTo (rowsOf T) T.length) (upTo (rowsOf T) T.length 0)
  lowP : B ≤ P
  lowM : B ≤ M
  highP : P < E
  highM : M < E
  highI : ∀ g, iv.ownBlock = some g → g < E
  highT : ∀ g, tv.ownBlock = some g → g < E
theorem MapIs.kp' {S : List Nat} {w w' : World} {M c : Nat} {f : Nat → Nat → Option Nat} (h : MapIs w M c f) (k : Kp S w w') (hM : M ∉ S) : MapIs w' M c f := by
  obtain ⟨D, hown, hrest⟩ := h
  have hlt := hown.lt
  obtain ⟨es, clock, hb, F, hs, hD⟩ := hown
  exact ⟨D, ⟨es, clock, (k.block M hlt hM).trans hb, F, hs, hD⟩, hrest⟩
theorem SegIs.kp {S : List Nat} {w w' : World} {B E P num M : Nat} {T : List Tx} {iv tv : Value} (h : SegIs w B E P num T iv tv M) (k : Kp S w w') (hS : ∀ x ∈ S, x < B ∨ E ≤ x) : SegIs w' B E P num T iv tv M := by
  have no : ∀ x, B ≤ x → x < E → x ∉ S := fun x h1 h2 hx => by rcases hS x hx with h3 | h3 <;> omega
  obtain ⟨M2, aa, ca, st, H, hc⟩ := h.cells
  exact ⟨⟨M2, aa, ca, st, H, k.heap hc (no P h.lowP h.highP)⟩, k.owns h.ids (fun g hg => no g (h.ids.lt g hg).1 (h.highI g hg)), k.owns h.terms (fun g hg => no g (h.terms.lt g hg).1 (h.highT g hg)),
    h.at'.kp' k (no M h.lowM h.highM), h.lowP, h.lowM, h.highP, h.highM, h.highI, h.highT⟩
theorem tv_of {w : World} {B n : Nat} {a : Option Addr} {c : Nat} {L : List (List UInt8)} (h : w.ownsRow B 9 1 (.slice a n c) L.length (strV L)) : Tv w w.heap.size a L := by
  by_cases h0 : L.length = 0
  · exact .inl (List.length_eq_zero_iff.1 h0)
  · obtain ⟨a', c', e, hh⟩ := owns_forms h
    cases e
    obtain ⟨g, rfl⟩ := hh (by omega)
    refine .inr ⟨g, 0, rfl, (h.lt g rfl).2, fun i hi => ?_⟩
    have := h.cells (g := g) rfl i (.string ⟨L[i].toArray⟩) (by simp [strV, hi])
    rw [Addr.add_mid] at this
    exact this
end Go.Proofs.YtpdoacfiiledcaaGreatDoor.Pak

