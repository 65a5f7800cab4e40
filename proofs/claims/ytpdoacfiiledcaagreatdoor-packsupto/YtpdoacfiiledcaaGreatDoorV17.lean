import Derived.Test.YtpdoacfiiledcaaGreatDoorV13
set_option linter.unusedVariables false
set_option maxRecDepth 4000
namespace Go.Proofs.YtpdoacfiiledcaaGreatDoor.Pak
open Go.RowKit Go.Proofs.YtpdoacfiiledcaaGreatDoor Go.Proofs.YtpdoacfiiledcaaGreatDoor.Spl SiftM

/-- What a call gives that appends to a list of bytes. -/
def Out (w : World) (base : Nat) (l : List UInt8) (e : Ending) (w' : World) : Prop := ∃ (a' : Option Addr) (cap' n' : Nat), l.length = n' ∧ e = .returned (.slice a' n' cap') ∧ w'.ownsRow base 5 1 (.slice a' n' cap') n' (byV l) ∧ Kb 5 [] base w w'

set_option maxHeartbeats 800000 in
set_option maxRecDepth 100000 in
theorem rput_any (base : Nat) (v : Value) (l : List UInt8) (n : Nat) (w : World) (h : w.ownsRow base 5 1 v l.length (byV l)) (hb : base ≤ w.heap.size) (hl : l.length ≤ 2000000) (hn : n < 268435456) :
    Calls Tryz.prog 288 #[v, .int .i64 n] w (Out w base (l ++ numB n)) := by
  obtain ⟨i0, hi, hz0, hz1, hz2⟩ := info_parts info5
  obtain ⟨a0, c0, rfl, _⟩ := owns_forms h
  have HO := hide h
  clear h
  go_enter Tryz.func288, Tryz.ntmps288
  go_wp2_with fail
  go_loopw [0, 1] (fun ov nv wr => ∃ (f m : Nat) (acc : List UInt8) (a : Option Addr) (cap : Nat), f ≤ 3 ∧ m < 128 ^ (f + 1) ∧ nv = .int .i64 m ∧ ov = .slice a acc.length cap ∧ acc ++ numG f m = l ++ numB n ∧ acc.length + f ≤ 2000004 ∧ base ≤ wr.heap.size ∧ wr.ownsRow base 5 1 (.slice a acc.length cap) acc.length (byV acc) ∧ Kb 5 [] base w wr) (fun _ nv _ => (intOf nv).toNat)
  case atStart => exact ⟨3, n, l, a0, c0, by omega, by omega, rfl, rfl, rfl, by omega, hb, HO.out, Kb.refl _ _ _ _⟩
  case round =>
    clear HO
    obtain ⟨f, m, acc, a, cap, hf, hm, rfl, rfl, hacc, hlen, hbase, hown, hkb⟩ := hrel
    have hm28 : m < 268435456 := by
      have : 128 ^ (f + 1) ≤ 128 ^ 4 := Nat.pow_le_pow_right (by omega) (by omega)
      omega
    by_cases hlow : m < 128
    · have hd : Hid (l ++ numB n = acc ++ [UInt8.ofNat m]) := by
        show _ = _
        rw [← hacc, numG_low f m hlow]
      have Hm := hide hm
      clear hacc hm
      go_wp2_with (first
        | (at_builtin; refine wpList_append_own_at _ rfl _ _ 112 rfl base 5 i0 (.int .u8 0) 1 1 Tryz.underlying112 hi hz0 hz1 hz2 rfl (by decide) _ _ _ rfl (hown.alloc _) ⟨wr.heap.size, 0, none⟩ 1 1 [.int .u8 m] rfl rfl (one_new _ _ _) (one_cell _ _) ?c1 ?c2 ?c3 ?_)
        | fail)
      case c1 => unfold maxLen; omega
      case c2 => omega
      case c3 => simp; omega
      intro v' w2 hown2 hgrow _ _
      obtain ⟨a', cap', rfl, _⟩ := owns_forms hown2
      have kf : Kb 5 [] base w w2 := (hkb.alloc _).grown (hown.alloc _) hgrow
      have HO2 := hide hown2
      clear hown2 hown
      go_wp2_with fail
      go_ret
      refine ⟨a', cap', _, ?_, rfl, ?_, kf⟩
      · rw [hd.out, List.length_append]; rfl
      · rw [hd.out, byV_append]
        simp only [byV, List.map_cons, List.map_nil, ofNat_toNat m (by omega)]
        exact HO2.out
    · obtain ⟨q, hq⟩ : ∃ q, m % 128 = q := ⟨_, rfl⟩
      obtain ⟨r, hr⟩ : ∃ r, m / 128 = r := ⟨_, rfl⟩
      have hA : ((m : Int) % 128) = (q : Int) := by omega
      have hS : ((m : Int) / 128) = (r : Int) := by omega
      have hA2 : (m : Int).tmod 128 = (q : Int) := by rw [Int.tmod_eq_emod_of_nonneg (by omega)]; exact hA
      have hS2 : (m : Int).tdiv 128 = (r : Int) := by rw [Int.tdiv_eq_ediv_of_nonneg (by omega)]; exact hS
      have q128 : q < 128 := by omega
      have hf0 : f ≠ 0 := by rintro rfl; simp at hm; omega
      obtain ⟨f', rfl⟩ : ∃ f', f = f' + 1 := ⟨f - 1, by omega⟩
      have hd : Hid ((acc ++ [UInt8.ofNat (q + 128)]) ++ numG f' r = l ++ numB n) := by
        show _ = _
        rw [← hacc, numG, if_neg hlow, hq, hr]; simp
      have hr2 : Hid (r < 128 ^ (f' + 1)) := by
        show r < _
        rw [← hr]
        exact Nat.div_lt_of_lt_mul (by rw [Nat.pow_succ] at hm; omega)
      have hrm : r < m := by omega
      have Hm := hide hm
      clear hacc hm hq hr
      go_wp2_with (first
        | (at_builtin; refine wpList_append_own_at _ rfl _ _ 112 rfl base 5 i0 (.int .u8 0) 1 1 Tryz.underlying112 hi hz0 hz1 hz2 rfl (by decide) _ _ _ rfl (hown.alloc _) ⟨wr.heap.size, 0, none⟩ 1 1 [.int .u8 (q + 128)] rfl rfl (one_new _ _ _) (one_cell _ _) ?c1 ?c2 ?c3 ?_)
        | fail)
      case c1 => unfold maxLen; omega
      case c2 => omega
      case c3 => simp; omega
      intro v' w2 hown2 hgrow _ _
      obtain ⟨a', cap', rfl, _⟩ := owns_forms hown2
      have kf : Kb 5 [] base w w2 := (hkb.alloc _).grown (hown.alloc _) hgrow
      have hz2' := hgrow.size
      simp at hz2'
      have HO2 := hide hown2
      clear hown2 hown
      go_wp2_with fail
      go_roundw
      case rel =>
        refine ⟨f', r, acc ++ [UInt8.ofNat (q + 128)], a', cap', by omega, hr2.out, by go_num, by simp, hd.out, by simp; omega, by omega, ?_, kf⟩
        rw [byV_append, List.length_append]
        simp only [byV, List.map_cons, List.map_nil, ofNat_toNat (q + 128) (by omega)]
        exact HO2.out
      case measure => simp [intOf]; omega
end Go.Proofs.YtpdoacfiiledcaaGreatDoor.Pak
