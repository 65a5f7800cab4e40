import Derived.Test.YtpdoacfiiledcaaGreatDoorV01
import Derived.Maps.OwnSet
import Derived.DeepKeys4
import Derived.Deep.RegionHeld3
import Derived.Sort.Walk0
namespace Go.Proofs.YtpdoacfiiledcaaGreatDoor.Pak
open Go.RowKit Go.Proofs.YtpdoacfiiledcaaGreatDoor Go.Proofs.YtpdoacfiiledcaaGreatDoor.Spl SiftM
set_option linter.unusedVariables false

theorem vw_of_owns {w : World} {base n cap : Nat} {a : Option Addr} {l : List UInt8} (h : w.ownsRow base 5 1 (.slice a n cap) n (byV l)) (hl : l.length = n) : Vw w w.heap.size a l := by
  rcases h.2 with ⟨e, rfl⟩ | ⟨g, cap', cur, e, hb, hgg, rest⟩
  · simp at e
    exact .inl ⟨List.eq_nil_of_length_eq_zero hl, e.1⟩
  · simp at e
    obtain ⟨rfl, rfl⟩ := e
    refine .inr ⟨g, 0, rfl, heap_lt hgg, fun j hj => ?_⟩
    have := h.cells (g := g) rfl j (.int .u8 (l[j].toNat : Int)) (by simp [byV, hj])
    have e : (⟨g, 0, none⟩ : Addr).add j = ⟨g, j, none⟩ := by unfold Addr.add; split <;> simp_all
    rw [e] at this
    simpa using this

/-- The sum's two numbers behind some bytes. -/
def adl : List UInt8 → Nat × Nat → Nat × Nat
  | [], p => p
  | c :: r, p => adl r ((p.1 + c.toNat) % 65521, (p.2 + (p.1 + c.toNat) % 65521) % 65521)
def sumN (l : List UInt8) : List Nat := [(adl l (1, 0)).2 / 256, (adl l (1, 0)).2 % 256, (adl l (1, 0)).1 / 256, (adl l (1, 0)).1 % 256]
def sumB (l : List UInt8) : List UInt8 := (sumN l).map UInt8.ofNat
def sumA (l : List UInt8) : Value := .agg ((sumN l).map fun (n : Nat) => Value.int .u8 (n : Int)).toArray
theorem adl_lt : ∀ (l : List UInt8) (p : Nat × Nat), p.1 < 65521 → p.2 < 65521 → (adl l p).1 < 65521 ∧ (adl l p).2 < 65521
  | [], p, h1, h2 => ⟨h1, h2⟩
  | c :: r, p, h1, h2 => adl_lt r _ (Nat.mod_lt _ (by omega)) (Nat.mod_lt _ (by omega))
theorem adl_snoc : ∀ (l : List UInt8) (c : UInt8) (p : Nat × Nat), adl (l ++ [c]) p = (((adl l p).1 + c.toNat) % 65521, ((adl l p).2 + ((adl l p).1 + c.toNat) % 65521) % 65521)
  | [], c, p => rfl
  | d :: r, c, p => by rw [List.cons_append, adl, adl_snoc r c]; rfl
theorem take_snocL {α : Type} (l : List α) (k : Nat) (h : k < l.length) : l.take (k + 1) = l.take k ++ [l[k]] := by
  rw [List.take_add_one, List.getElem?_eq_getElem h]; rfl

set_option maxHeartbeats 800000 in
set_option maxRecDepth 100000 in
theorem sum_any (a : Option Addr) (cap : Nat) (l : List UInt8) (w : World) (hv : Vw w w.heap.size a l) (hl : l.length ≤ 4000000) :
    Calls Tryz.prog 350 #[.slice a l.length cap] w fun e w' => e = .returned (sumA l) ∧ Kp [] w w' := by
  have HV := hide hv
  clear hv
  go_enter Tryz.func350, Tryz.ntmps350
  go_wp2_with fail
  obtain ⟨W1, hW1⟩ : ∃ W1, w.alloc (.cells #[.int .u8 0, .int .u8 0, .int .u8 0, .int .u8 0] 447) = W1 := ⟨_, rfl⟩
  rw [hW1]
  have k0 : Kp [] w W1 := by rw [← hW1]; exact (Kp.refl _ _).alloc _
  have hb0 : W1.heap[w.heap.size]? = some (.cells #[.int .u8 0, .int .u8 0, .int .u8 0, .int .u8 0] 447 (0, 0)) := by rw [← hW1]; exact heap_alloc_new w _
  have HB0 := hide hb0
  have hv1 := vw_kp HV.out k0 (by simp)
  have HV1 := hide hv1
  clear hW1 hb0 hv1 HV
  go_loopw [3, 4, 9] (fun av bv iv wr => ∃ k : Nat, k ≤ l.length ∧ iv = .int .i64 k ∧ av = .int .i64 ((adl (l.take k) (1, 0)).1 : Nat) ∧ bv = .int .i64 ((adl (l.take k) (1, 0)).2 : Nat) ∧ wr = W1) (fun _ _ iv _ => l.length - (intOf iv).toNat)
  case atStart => exact ⟨0, by omega, rfl, rfl, rfl, rfl⟩
  case round =>
    obtain ⟨k, hk, rfl, rfl, rfl, rfl⟩ := hrel
    have hlt2 := adl_lt (l.take k) (1, 0) (by decide) (by decide)
    by_cases hlt : k < l.length
    · obtain ⟨g, off, rfl, hg, hc⟩ : ∃ g off, a = some ⟨g, off, none⟩ ∧ g < w.heap.size ∧ ∀ j (h : j < l.length), wr.cell? ⟨g, off + j, none⟩ = some (.int .u8 (l[j].toNat : Int)) := by
        rcases HV1.out with ⟨h, _⟩ | h
        · subst h; simp at hlt
        · exact h
      have hck := hc k hlt
      have hsn := hide (adl_snoc (l.take k) l[k] (1, 0))
      rw [← take_snocL l k hlt] at hsn
      have c256 : l[k].toNat < 256 := l[k].toNat_lt
      obtain ⟨x, hx⟩ : ∃ x, (adl (l.take k) (1, 0)).1 = x := ⟨_, rfl⟩
      obtain ⟨y, hy⟩ : ∃ y, (adl (l.take k) (1, 0)).2 = y := ⟨_, rfl⟩
      obtain ⟨c, hc'⟩ : ∃ c, l[k].toNat = c := ⟨_, rfl⟩
      rw [hx, hy, hc'] at hsn
      rw [hx, hy] at hlt2 ⊢
      rw [hc'] at hck c256
      obtain ⟨h1, h2⟩ := hlt2
      clear hc hx hy hc'
      go_wp2_with fail
      go_roundw
      case rel =>
        refine ⟨k + 1, by omega, by go_num, ?_, ?_, by trivial⟩
        · rw [hsn.out]; go_num
        · rw [hsn.out]; go_num
      case measure => simp [intOf]; omega
    · have e : k = l.length := by omega
      subst e
      rw [List.take_length] at hlt2 ⊢
      have hres : Hid (sumA l = .agg #[.int .u8 (((adl l (1, 0)).2 / 256 : Nat) : Int), .int .u8 (((adl l (1, 0)).2 % 256 : Nat) : Int), .int .u8 (((adl l (1, 0)).1 / 256 : Nat) : Int), .int .u8 (((adl l (1, 0)).1 % 256 : Nat) : Int)]) := rfl
      obtain ⟨x, hx⟩ : ∃ x, (adl l (1, 0)).1 = x := ⟨_, rfl⟩
      obtain ⟨y, hy⟩ : ∃ y, (adl l (1, 0)).2 = y := ⟨_, rfl⟩
      rw [hx, hy] at hlt2 hres ⊢
      obtain ⟨h1, h2⟩ := hlt2
      clear hx hy
      have hcell : ∀ j, j < 4 → wr.cell? ⟨w.heap.size, j, none⟩ = some (.int .u8 0) := by
        intro j hj
        have := HB0.out
        simp only [World.cell?, this]
        match j, hj with
        | 0, _ => rfl
        | 1, _ => rfl
        | 2, _ => rfl
        | 3, _ => rfl
      have hfz : ∀ j, wr.frozen? ⟨w.heap.size, j, none⟩ = false := fun j => by simp [World.frozen?, HB0.out]
      have c0 := hcell 0 (by omega)
      have c1 := hcell 1 (by omega)
      have c2 := hcell 2 (by omega)
      have c3 := hcell 3 (by omega)
      have f0 := hfz 0
      have f1 := hfz 1
      have f2 := hfz 2
      have f3 := hfz 3
      clear hcell hfz
      go_wp2_with fail
      refine bodyPost_ret (v := .agg #[.int .u8 ((y : Int) / 256), .int .u8 ((y : Int) % 256), .int .u8 ((x : Int) / 256), .int .u8 ((x : Int) % 256)]) (by simp [results, Tryz.results350, go_sem, c0, c1, c2, c3]) rfl ⟨?_, ?_⟩
      · rw [hres.out]; rfl
      · exact (((k0.setCell (.inr (by simp)) _).setCell (.inr (by simp)) _).setCell (.inr (by simp)) _).setCell (.inr (by simp)) _
end Go.Proofs.YtpdoacfiiledcaaGreatDoor.Pak

set_option linter.unusedVariables false
set_option maxRecDepth 4000
namespace Go.Proofs.YtpdoacfiiledcaaGreatDoor.Pak
open Go.RowKit Go.Proofs.YtpdoacfiiledcaaGreatDoor Go.Proofs.YtpdoacfiiledcaaGreatDoor.Spl SiftM

/-- What a call gives that appends to a list of bytes. -/
def Out (w : World) (base : Nat) (l : List UInt8) (e : Ending) (w' : World) : Prop := ∃ (a' : Option Addr) (cap' n' : Nat), l.length = n' ∧ e = .returned (.slice a' n' cap') ∧ w'.ownsRow base 5 1 (.slice a' n' cap') n' (byV l) ∧ Kb 5 [] base w w'

set_option maxHeartbeats 800000 in
set_option maxRecDepth 100000 in
theorem rput_any (base : Nat) (v : Value) (l : List UInt8) (n : Nat) (w : World) (h : w.ownsRow base 5 1 v l.length (byV l)) (hb : base ≤ w.heap.size) (hl : l.length ≤ 2000000) (hn : n < 268435456) :
    Calls Tryz.prog 288 #[v, .int .i64 n] w (Out w base (l ++ numB n)) := by
  obtain ⟨i0, hi, hz0, hz1, hz2⟩ := info_parts info5
  obtain ⟨a0, c0, rfl, _⟩ := owns_forms h
  have HO := hide h
  clear h
  go_enter Tryz.func288, Tryz.ntmps288
  go_wp2_with fail
  go_loopw [0, 1] (fun ov nv wr => ∃ (f m : Nat) (acc : List UInt8) (a : Option Addr) (cap : Nat), f ≤ 3 ∧ m < 128 ^ (f + 1) ∧ nv = .int .i64 m ∧ ov = .slice a acc.length cap ∧ acc ++ numG f m = l ++ numB n ∧ acc.length + f ≤ 2000004 ∧ base ≤ wr.heap.size ∧ wr.ownsRow base 5 1 (.slice a acc.length cap) acc.length (byV acc) ∧ Kb 5 [] base w wr) (fun _ nv _ => (intOf nv).toNat)
  case atStart => exact ⟨3, n, l, a0, c0, by omega, by omega, rfl, rfl, rfl, by omega, hb, HO.out, Kb.refl _ _ _ _⟩
  case round =>
    clear HO
    obtain ⟨f, m, acc, a, cap, hf, hm, rfl, rfl, hacc, hlen, hbase, hown, hkb⟩ := hrel
    have hm28 : m < 268435456 := by
      have : 128 ^ (f + 1) ≤ 128 ^ 4 := Nat.pow_le_pow_right (by omega) (by omega)
      omega
    by_cases hlow : m < 128
    · have hd : Hid (l ++ numB n = acc ++ [UInt8.ofNat m]) := by
        show _ = _
        rw [← hacc, numG_low f m hlow]
      have Hm := hide hm
      clear hacc hm
      go_wp2_with (first
        | (at_builtin; refine wpList_append_own_at _ rfl _ _ 112 rfl base 5 i0 (.int .u8 0) 1 1 Tryz.underlying112 hi hz0 hz1 hz2 rfl (by decide) _ _ _ rfl (hown.alloc _) ⟨wr.heap.size, 0, none⟩ 1 1 [.int .u8 m] rfl rfl (one_new _ _ _) (one_cell _ _) ?c1 ?c2 ?c3 ?_)
        | fail)
      case c1 => unfold maxLen; omega
      case c2 => omega
      case c3 => simp; omega
      intro v' w2 hown2 hgrow _ _
      obtain ⟨a', cap', rfl, _⟩ := owns_forms hown2
      have kf : Kb 5 [] base w w2 := (hkb.alloc _).grown (hown.alloc _) hgrow
      have HO2 := hide hown2
      clear hown2 hown
      go_wp2_with fail
      go_ret
      refine ⟨a', cap', _, ?_, rfl, ?_, kf⟩
      · rw [hd.out, List.length_append]; rfl
      · rw [hd.out, byV_append]
        simp only [byV, List.map_cons, List.map_nil, ofNat_toNat m (by omega)]
        exact HO2.out
    · obtain ⟨q, hq⟩ : ∃ q, m % 128 = q := ⟨_, rfl⟩
      obtain ⟨r, hr⟩ : ∃ r, m / 128 = r := ⟨_, rfl⟩
      have hA : ((m : Int) % 128) = (q : Int) := by omega
      have hS : ((m : Int) / 128) = (r : Int) := by omega
      have hA2 : (m : Int).tmod 128 = (q : Int) := by rw [Int.tmod_eq_emod_of_nonneg (by omega)]; exact hA
      have hS2 : (m : Int).tdiv 128 = (r : Int) := by rw [Int.tdiv_eq_ediv_of_nonneg (by omega)]; exact hS
      have q128 : q < 128 := by omega
      have hf0 : f ≠ 0 := by rintro rfl; simp at hm; omega
      obtain ⟨f', rfl⟩ : ∃ f', f = f' + 1 := ⟨f - 1, by omega⟩
      have hd : Hid ((acc ++ [UInt8.ofNat (q + 128)]) ++ numG f' r = l ++ numB n) := by
        show _ = _
        rw [← hacc, numG, if_neg hlow, hq, hr]; simp
      have hr2 : Hid (r < 128 ^ (f' + 1)) := by
        show r < _
        rw [← hr]
        exact Nat.div_lt_of_lt_mul (by rw [Nat.pow_succ] at hm; omega)
      have hrm : r < m := by omega
      have Hm := hide hm
      clear hacc hm hq hr
      go_wp2_with (first
        | (at_builtin; refine wpList_append_own_at _ rfl _ _ 112 rfl base 5 i0 (.int .u8 0) 1 1 Tryz.underlying112 hi hz0 hz1 hz2 rfl (by decide) _ _ _ rfl (hown.alloc _) ⟨wr.heap.size, 0, none⟩ 1 1 [.int .u8 (q + 128)] rfl rfl (one_new _ _ _) (one_cell _ _) ?c1 ?c2 ?c3 ?_)
        | fail)
      case c1 => unfold maxLen; omega
      case c2 => omega
      case c3 => simp; omega
      intro v' w2 hown2 hgrow _ _
      obtain ⟨a', cap', rfl, _⟩ := owns_forms hown2
      have kf : Kb 5 [] base w w2 := (hkb.alloc _).grown (hown.alloc _) hgrow
      have hz2' := hgrow.size
      simp at hz2'
      have HO2 := hide hown2
      clear hown2 hown
      go_wp2_with fail
      go_roundw
      case rel =>
        refine ⟨f', r, acc ++ [UInt8.ofNat (q + 128)], a', cap', by omega, hr2.out, by go_num, by simp, hd.out, by simp; omega, by omega, ?_, kf⟩
        rw [byV_append, List.length_append]
        simp only [byV, List.map_cons, List.map_nil, ofNat_toNat (q + 128) (by omega)]
        exact HO2.out
      case measure => simp [intOf]; omega
end Go.Proofs.YtpdoacfiiledcaaGreatDoor.Pak

namespace Go.Proofs.YtpdoacfiiledcaaGreatDoor.Pak
open Go.RowKit Go.Proofs.YtpdoacfiiledcaaGreatDoor Go.Proofs.YtpdoacfiiledcaaGreatDoor.Spl SiftM
set_option linter.unusedVariables false

theorem make_bytes (c : Nat) (w : World) (hc : c ≤ 4000000) : (Instr.makeSlice 112 (.int .i64 0) (.int .i64 c)).run Tryz.prog w = .ok (.slice (some ⟨w.heap.size, 0, none⟩) 0 c) (w.alloc (.cells (Array.replicate c (Value.int .u8 0)) 5)) := by
  obtain ⟨i0, hi, hz0, hz1, hz2⟩ := info_parts info5
  have := run_make (P := Tryz.prog) w 112 5 i0 (.int .u8 0) Tryz.underlying112 hi hz0 .i64 .i64 0 c (by omega) (by omega) (by rw [hz2]; omega) (by omega)
  rw [hz1, Nat.mul_one] at this
  simp only [Int.toNat_natCast] at this
  rw [this, show (Value.int .u8 0).cells = #[.int .u8 0] from rfl, made_one]
  rfl
theorem sumB_V (l : List UInt8) : byV (sumB l) = (sumN l).map fun (n : Nat) => Value.int .u8 (n : Int) := by
  have h := adl_lt l (1, 0) (by decide) (by decide)
  simp only [byV, sumB, sumN, List.map_cons, List.map_nil]
  rw [ofNat_toNat _ (by omega), ofNat_toNat _ (by omega), ofNat_toNat _ (by omega), ofNat_toNat _ (by omega)]

set_option maxHeartbeats 800000 in
set_option maxRecDepth 100000 in
theorem sealed_any (W base : Nat) (l : List UInt8) (w : World) (h : Wr w W base l) (h0 : 0 < l.length) (hl : l.length ≤ 2000000) :
    Calls Tryz.prog 266 #[.pointer (some ⟨W, 0, none⟩)] w fun e w' => ∃ v, e = .returned v ∧ w'.ownsRow w.heap.size 5 1 v (l.length + 4) (byV (l ++ sumB l)) ∧ Kp [] w w' := by
  obtain ⟨i0, hi, hz0, hz1, hz2⟩ := info_parts info5
  obtain ⟨a, cap, h1, hown⟩ := wr_slice h
  obtain ⟨a', cap', e, hg⟩ := owns_forms hown
  simp at e
  obtain ⟨rfl, rfl⟩ := e
  obtain ⟨g, rfl⟩ := hg h0
  have hgl := hown.lt g rfl
  obtain ⟨c0, f0⟩ := wr_cell h1
  have hWl := heap_lt h1
  have H1 := hide h1
  have HO := hide hown
  have hne := owns_ne hown h1 (by decide)
  have hsum := hide (sum_any (some ⟨g, 0, none⟩) cap l w (vw_of_owns hown rfl) (by omega))
  have hsv := hide (sumB_V l)
  obtain ⟨s0, s1, s2, s3, hs⟩ : ∃ s0 s1 s2 s3, sumN l = [s0, s1, s2, s3] := ⟨_, _, _, _, rfl⟩
  have hsA : sumA l = .agg #[.int .u8 (s0 : Int), .int .u8 (s1 : Int), .int .u8 (s2 : Int), .int .u8 (s3 : Int)] := by unfold sumA; rw [hs]; rfl
  rw [hsA] at hsum
  rw [hs] at hsv
  clear h h1 hown hs hsA
  have hmk : ∀ w', (Instr.makeSlice 112 (.int .i64 0) (.int .i64 ((l.length : Int) + 4))).run Tryz.prog w' = .ok (.slice (some ⟨w'.heap.size, 0, none⟩) 0 (l.length + 4)) (w'.alloc (.cells (Array.replicate (l.length + 4) (Value.int .u8 0)) 5)) := fun w' => make_bytes (l.length + 4) w' (by omega)
  go_enter Tryz.func266, Tryz.ntmps266
  go_wp2_with fail
  refine hsum.out.mono ?_
  rintro e w1 ⟨rfl, hk1⟩
  have hW1 := hk1.heap H1.out (by simp)
  obtain ⟨c1, f1⟩ := wr_cell hW1
  have hz1' := hk1.size
  have ho1 := hk1.owns HO.out (by simp)
  have HO1 := hide ho1
  have hWl1 : W < w1.heap.size := by omega
  have hWne : W ≠ w1.heap.size := by omega
  have hWe : (W == w1.heap.size) = false := by simpa using hWne
  clear hW1 ho1 hsum c0 f0
  have hWl2 : W < w1.heap.size + 1 := by omega
  have hWl3 : W < w1.heap.size + 1 + 1 := by omega
  have hob := World.ownsRow_made (base := w.heap.size) (e := 5) (size := 1) (w1.alloc (.cells #[.int .u8 (s0 : Int), .int .u8 (s1 : Int), .int .u8 (s2 : Int), .int .u8 (s3 : Int)] 447)) (Array.replicate (l.length + 4) (Value.int .u8 0)) (l.length + 4) (by simp; omega) (by unfold maxLen; omega) (by simp)
  have hoc : ∀ j u, (byV l)[j]? = some u → ((w1.alloc (.cells #[.int .u8 (s0 : Int), .int .u8 (s1 : Int), .int .u8 (s2 : Int), .int .u8 (s3 : Int)] 447)).alloc (.cells (Array.replicate (l.length + 4) (Value.int .u8 0)) 5)).cell? ((⟨g, 0, none⟩ : Addr).add j) = some u := ((HO1.out.alloc _).alloc _).cells (g := g) rfl
  have h1c : ∀ u ∈ byV l, u.oneCell' = true := by intro u hu; simp [byV] at hu; obtain ⟨c, _, rfl⟩ := hu; rfl
  rw [World.size_alloc] at hob
  have HOB := hide hob
  have HOC := hide hoc
  have H1C := hide h1c
  clear hob hoc h1c
  go_wp2_with (first
    | (at_builtin; (refine wpList_append_own_at _ rfl _ _ 112 rfl w.heap.size 5 i0 (.int .u8 0) 1 1 Tryz.underlying112 hi hz0 hz1 hz2 rfl (by decide) _ _ _ rfl HOB.out ⟨g, 0, none⟩ l.length cap (byV l) rfl ?c0 HOC.out H1C.out ?c1 ?c2 ?c3 ?_))
    | fail)
  case c0 => simp [byV]
  case c1 => unfold maxLen; omega
  case c2 => omega
  case c3 => simp; omega
  intro v2 w2 hown2 hgrow2 _ _
  replace hown2 : w2.ownsRow w.heap.size 5 1 v2 l.length (byV l) := by simpa using hown2
  have hT2 : w2.heap[w1.heap.size]? = some (.cells #[.int .u8 (s0 : Int), .int .u8 (s1 : Int), .int .u8 (s2 : Int), .int .u8 (s3 : Int)] 447 (0, 0)) := by
    rw [hgrow2.block w1.heap.size (by simp; omega) (by simp [Value.ownBlock]), Below.heap_alloc _ _ _ (by simp)]
    exact heap_alloc_new w1 _
  have hcs : ∀ j u, [Value.int .u8 (s0 : Int), .int .u8 (s1 : Int), .int .u8 (s2 : Int), .int .u8 (s3 : Int)][j]? = some u → w2.cell? ((⟨w1.heap.size, 0, none⟩ : Addr).add j) = some u := by
    intro j u hu
    have e : (⟨w1.heap.size, 0, none⟩ : Addr).add j = ⟨w1.heap.size, j, none⟩ := by unfold Addr.add; split <;> simp_all
    rw [e]
    simp only [World.cell?, hT2]
    simpa using hu
  have h1d : ∀ u ∈ [Value.int .u8 (s0 : Int), .int .u8 (s1 : Int), .int .u8 (s2 : Int), .int .u8 (s3 : Int)], u.oneCell' = true := by
    intro u hu; simp at hu; rcases hu with rfl | rfl | rfl | rfl <;> rfl
  have hz2' := hgrow2.size
  simp at hz2'
  have k2 : Kp [] w w2 := ((hk1.alloc _).alloc _).grown hgrow2 (by intro k hk; simp [Value.ownBlock] at hk; right; omega)
  have HCS := hide hcs
  have H1D := hide h1d
  have HO2 := hide hown2
  obtain ⟨a2, cap2, rfl, _⟩ := owns_forms hown2
  clear hcs h1d hT2 hown2 hgrow2 HOB HOC H1C hmk
  go_wp2_with (first
    | (at_builtin; refine wpList_append_own_at _ rfl _ _ 112 rfl w.heap.size 5 i0 (.int .u8 0) 1 1 Tryz.underlying112 hi hz0 hz1 hz2 rfl (by decide) _ _ _ rfl HO2.out ⟨w1.heap.size, 0, none⟩ 4 4 [.int .u8 (s0 : Int), .int .u8 (s1 : Int), .int .u8 (s2 : Int), .int .u8 (s3 : Int)] rfl ?c0 HCS.out H1D.out ?c1 ?c2 ?c3 ?_)
    | fail)
  case c0 => rfl
  case c1 => unfold maxLen; omega
  case c2 => omega
  case c3 => omega
  intro v3 w3 hown3 hgrow3 _ _
  have HO3 := hide hown3
  obtain ⟨a3, cap3, rfl, _⟩ := owns_forms hown3
  clear hown3
  go_wp2_with fail
  go_ret
  refine ⟨_, rfl, ?_, k2.grown hgrow3 (fun k hk => .inr (HO2.out.lt k hk).1)⟩
  rw [byV_append, hsv.out]
  exact HO3.out
end Go.Proofs.YtpdoacfiiledcaaGreatDoor.Pak

namespace Go.Proofs.YtpdoacfiiledcaaGreatDoor.Pak
open Go.RowKit Go.Proofs.YtpdoacfiiledcaaGreatDoor Go.Proofs.YtpdoacfiiledcaaGreatDoor.Spl SiftM Go.Maps
set_option linter.unusedVariables false

theorem laidOut : laidOutB Tryz.prog = true := by kernel_rfl
theorem row95 : (410 : TypeId) < Tryz.prog.types.size := of_decide_eq_true (by kernel_rfl)
theorem deep95 : Tryz.prog.keyTypeAt 2 410 = true := by kernel_rfl
theorem wide95 : (match Tryz.prog.underlying 410 with | some (.array _ _) | some (.struct _) => true | _ => false) = true := by kernel_rfl
set_option maxRecDepth 100000 in
theorem spotK : Keyed Tryz.prog 410 := Keyed.of_law (deep_law_laid laidOut (m := 2) (by omega) row95 deep95 wide95)
def key (d p : Nat) : Lit := .string (keyBytes [.int .i64 (d : Int), .int .i64 (p : Int)])
theorem keyT95 : Tryz.prog.keyType 410 = true := by kernel_rfl
theorem types_size : ∃ m, Tryz.prog.types.size + 1 = m + 2 := ⟨Tryz.prog.types.size - 1, by have h : 410 < Tryz.prog.types.size := row95; omega⟩
theorem cells95 : Tryz.prog.cellsOf 410 = 2 := by kernel_rfl
theorem cells3 : Tryz.prog.cellsOf 3 = 1 := by kernel_rfl
theorem wf64 (n : Nat) (h : n ≤ 1099511627776) : (Lit.int .i64 (n : Int)).wf = true := WalkArith.wf_i64 (by omega)

theorem lits_spot (m d p : Nat) (hd : d ≤ 1099511627776) (hp : p ≤ 1099511627776) : Tryz.prog.keyLits (m + 2) 410 [.int .i64 (d : Int), .int .i64 (p : Int)] = some [.int .i64 (d : Int), .int .i64 (p : Int)] := by
  unfold Program.keyLits
  simp only [Tryz.underlying410]
  rw [if_pos ⟨by rw [cells95]; rfl, by simp⟩]
  simp [cells3, Program.keyLits, Tryz.underlying3, wf64 d hd, wf64 p hp]
theorem keyOf_spot (d p : Nat) (hd : d ≤ 1099511627776) (hp : p ≤ 1099511627776) : keyOf Tryz.prog 410 (.agg #[.int .i64 (d : Int), .int .i64 (p : Int)]) = some (key d p) := by
  obtain ⟨m, hm⟩ := types_size
  unfold keyOf
  simp only [Tryz.underlying410]
  rw [if_pos (by simp [keyT95, Value.formed, Tryz.underlying410, cells95]), hm]
  have := lits_spot m d p hd hp
  simp only [Value.cells]
  rw [this]
  rfl
theorem key_inj {d p d' p' : Nat} (hd : d ≤ 1099511627776) (hp : p ≤ 1099511627776) (hd' : d' ≤ 1099511627776) (hp' : p' ≤ 1099511627776) (h : key d p = key d' p') : d = d' ∧ p = p' := by
  have e : keyBytes [.int .i64 (d : Int), .int .i64 (p : Int)] = keyBytes [.int .i64 (d' : Int), .int .i64 (p' : Int)] := by
    have := h; unfold key at this; simpa using this
  have h2 := keyLits_inj (lits_spot 0 d p hd hp) (lits_spot 0 d' p' hd' hp') e
  simp at h2
  omega

/-- Block M is a map of c entries that says f. -/
def MapIs (w : World) (M c : Nat) (f : Nat → Nat → Option Nat) : Prop :=
  ∃ D : DataW Unit, w.ownsMap Tryz.prog 410 (plainElem Tryz.prog 3) M c D ∧ Maps.size D = c ∧
    (∀ d p, d ≤ 1099511627776 → p ≤ 1099511627776 → Maps.has D (key d p) = (f d p).isSome) ∧
    ∀ d p, d ≤ 1099511627776 → p ≤ 1099511627776 → ∀ v, f d p = some v → D.atKey (key d p) (.lit (.int .i64 0)) = .lit (.int .i64 (v : Int))
theorem MapIs.lt {w : World} {M c : Nat} {f : Nat → Nat → Option Nat} (h : MapIs w M c f) : M < w.heap.size := by
  obtain ⟨D, h1, _⟩ := h; exact h1.lt
theorem MapIs.block {w : World} {M c : Nat} {f : Nat → Nat → Option Nat} (h : MapIs w M c f) : ∃ es clock, w.heap[M]? = some (.map es clock) := by
  obtain ⟨D, ⟨es, clock, h1, _⟩, _⟩ := h; exact ⟨es, clock, h1⟩
theorem MapIs.kp {S : List Nat} {w w' : World} {M c : Nat} {f : Nat → Nat → Option Nat} (h : MapIs w M c f) (k : Kp S w w') (hM : M ∉ S) : MapIs w' M c f := by
  obtain ⟨D, ⟨es, clock, h1, h2⟩, h3⟩ := h
  exact ⟨D, ⟨es, clock, k.heap h1 hM, h2⟩, h3⟩
theorem MapIs.kb {t : TypeId} {S : List Nat} {base : Nat} {w w' : World} {M c : Nat} {f : Nat → Nat → Option Nat} (h : MapIs w M c f) (k : Kb t S base w w') (hM : M ∉ S) : MapIs w' M c f := by
  obtain ⟨D, ⟨es, clock, h1, h2⟩, h3⟩ := h
  exact ⟨D, ⟨es, clock, k.block M _ hM h1 (.inr (fun cs fr e => by simp at e)), h2⟩, h3⟩
theorem mapIs_made (w : World) : MapIs (w.alloc (.map #[] 0)) w.heap.size 0 fun _ _ => none := by
  refine ⟨.map [], World.ownsMap_made _ _ _ _, rfl, fun d p _ _ => rfl, fun d p _ _ v hv => by simp at hv⟩

def putAt (f : Nat → Nat → Option Nat) (d p v : Nat) : Nat → Nat → Option Nat := fun d' p' => if d' = d ∧ p' = p then some v else f d' p'

theorem keylit (d p : Nat) : WideAt.IsKeyLit (key d p) := trivial
theorem zero3 (w : World) : (zeroValue 3).run Tryz.prog w = .ok (.int .i64 0) w := by kernel_rfl

theorem owns_size {w : World} {M n : Nat} {D : DataW Unit} (h : w.ownsMap Tryz.prog 410 (plainElem Tryz.prog 3) M n D) : w.ownsMap Tryz.prog 410 (plainElem Tryz.prog 3) M (Maps.size D) D := by
  obtain ⟨es, clock, h1, h2, h3, rfl⟩ := h
  exact ⟨es, clock, h1, h2, by simp [Maps.size, length_sorted], rfl⟩

theorem MapIs.look {w : World} {M c : Nat} {f : Nat → Nat → Option Nat} (h : MapIs w M c f) (d p : Nat) (hd : d ≤ 1099511627776) (hp : p ≤ 1099511627776) :
    ∃ x : Int, (Instr.lookup 314 (.map (some M)) (.agg #[.int .i64 (d : Int), .int .i64 (p : Int)]) true).run Tryz.prog w = .ok (.tuple #[.int .i64 x, .bool (f d p).isSome]) w ∧ ∀ v, f d p = some v → x = (v : Int) := by
  obtain ⟨D, hown, hsz, hhas, hat⟩ := h
  obtain ⟨v, ps, hrun, hv⟩ := hown.look_ok spotK Tryz.underlying314 (zero3 w) (plainElem_int Tryz.underlying3 (by decide)) (keyOf_spot d p hd hp)
  obtain ⟨x, rfl, hx, _⟩ := plainElem_int_inv Tryz.underlying3 hv
  rw [hhas d p hd hp] at hrun
  refine ⟨x, hrun, fun v hv => ?_⟩
  have h2 := hat d p hd hp v hv
  simp only [Prod.mk.injEq] at hx
  rw [h2] at hx
  simpa using hx.1.symm

theorem MapIs.store {w : World} {M c : Nat} {f : Nat → Nat → Option Nat} (h : MapIs w M c f) (hc : c ≤ 1000000000) (d p v : Nat) (hd : d ≤ 1099511627776) (hp : p ≤ 1099511627776) (hv : v ≤ 1099511627776) :
    ∃ w', (Instr.mapUpdate 314 (.map (some M)) (.agg #[.int .i64 (d : Int), .int .i64 (p : Int)]) (.int .i64 (v : Int))).run Tryz.prog w = .ok () w' ∧ MapIs w' M (if (f d p).isSome then c else c + 1) (putAt f d p v) ∧ Kp [M] w w' := by
  obtain ⟨D, hown, hsz, hhas, hat⟩ := h
  obtain ⟨w', hrun, h1, h2⟩ := hown.update spotK Tryz.underlying314 (by unfold maxLen; omega) (keyOf_spot d p hd hp) (plainElem_int Tryz.underlying3 (wf64 v hv))
  refine ⟨w', hrun, ⟨D.put (key d p) (.lit (.int .i64 (v : Int))), ?_, ?_, ?_, ?_⟩, (Kp.refl [M] w).grown h2 (fun k hk => by simp at hk; left; simp [hk])⟩
  · have := owns_size h1
    rw [Maps.size_put (hown.tidy spotK), hhas d p hd hp, hsz] at this
    exact this
  · rw [Maps.size_put (hown.tidy spotK), hhas d p hd hp, hsz]
  · intro d' p' hd' hp'
    unfold putAt
    by_cases e : d' = d ∧ p' = p
    · obtain ⟨rfl, rfl⟩ := e
      rw [Maps.has_put_same hown.isMap (keylit _ _)]
      simp
    · rw [Maps.has_put_other (fun h => e (key_inj hd' hp' hd hp h)), hhas d' p' hd' hp', if_neg e]
  · intro d' p' hd' hp' x hx
    unfold putAt at hx
    by_cases e : d' = d ∧ p' = p
    · obtain ⟨rfl, rfl⟩ := e
      rw [if_pos ⟨rfl, rfl⟩] at hx
      simp at hx
      subst hx
      exact Maps.atKey_put_same hown.isMap (keylit _ _) _ _
    · rw [if_neg e] at hx
      rw [Maps.atKey_put_other (fun h => e (key_inj hd' hp' hd hp h))]
      exact hat d' p' hd' hp' x hx
theorem MapIs.len {w : World} {M c : Nat} {f : Nat → Nat → Option Nat} (h : MapIs w M c f) (ty : TypeId) : (Builtin.len_ #[314] ty #[.map (some M)]).run Tryz.prog w = .ok (.int .i64 (c : Int)) w := by
  obtain ⟨D, hown, hsz, hhas, hat⟩ := h
  rw [hown.len Tryz.underlying314 ty, hsz]
end Go.Proofs.YtpdoacfiiledcaaGreatDoor.Pak

namespace Go.Proofs.YtpdoacfiiledcaaGreatDoor.Pak
open Go.RowKit Go.Proofs.YtpdoacfiiledcaaGreatDoor Go.Proofs.YtpdoacfiiledcaaGreatDoor.Spl SiftM
set_option linter.unusedVariables false

def isWord (l : List UInt8) : Bool := decide (1 ≤ l.length) && decide (l.length ≤ 8) && l.all isSm

end Go.Proofs.YtpdoacfiiledcaaGreatDoor.Pak

namespace Go.Proofs.YtpdoacfiiledcaaGreatDoor.Pak
open Go.RowKit Go.Proofs.YtpdoacfiiledcaaGreatDoor Go.Proofs.YtpdoacfiiledcaaGreatDoor.Spl SiftM
set_option linter.unusedVariables false

/-- The table in block T. -/
structure Tabl (w : World) (T B : Nat) (ids : List Nat) (terms : List (List UInt8)) (M c : Nat) (f : Nat → Nat → Option Nat) (iv tv : Value) : Prop where
  blk : w.heap[T]? = some (.cells #[iv, tv, .map (some M)] 316 (0, 0))
  ids : w.ownsRow B 3 1 iv ids.length (intV ids)
  terms : w.ownsRow B 9 1 tv terms.length (strV terms)
  map : MapIs w M c f
  leT : B ≤ T
  leM : B ≤ M
theorem tb_cells {w : World} {T : Nat} {x y z : Value} {t : TypeId} (h : w.heap[T]? = some (.cells #[x, y, z] t (0, 0))) :
    w.cell? ⟨T, 0, none⟩ = some x ∧ w.cell? ⟨T, 1, none⟩ = some y ∧ w.cell? ⟨T, 2, none⟩ = some z ∧ w.frozen? ⟨T, 0, none⟩ = false ∧ w.frozen? ⟨T, 1, none⟩ = false ∧ w.frozen? ⟨T, 2, none⟩ = false := by
  simp [World.cell?, World.frozen?, h]
theorem map_ne {w : World} {M T : Nat} {c : Nat} {f : Nat → Nat → Option Nat} {cs : Array Value} {t : TypeId} {fr : Nat × Nat} (h : MapIs w M c f) (hT : w.heap[T]? = some (.cells cs t fr)) : M ≠ T := by
  rintro rfl
  obtain ⟨es, cl, h1⟩ := h.block
  rw [hT] at h1; simp at h1
theorem owns_ne_map {w : World} {M c base n size : Nat} {f : Nat → Nat → Option Nat} {e : TypeId} {v : Value} {xs : List Value} (h : w.ownsRow base e size v n xs) (hM : MapIs w M c f) : v.ownBlock ≠ some M := by
  intro ee
  rcases h.2 with ⟨rfl, _⟩ | ⟨g, cap, cur, rfl, _, hh, _⟩
  · simp [Value.ownBlock] at ee
  · simp [Value.ownBlock] at ee
    subst ee
    exact map_ne hM hh rfl
/-- Whatever turns the map and blocks of other kinds alone keeps the rest of the table. -/
theorem Tabl.kp {S : List Nat} {w w' : World} {T B M c c' : Nat} {ids : List Nat} {terms : List (List UInt8)} {f f' : Nat → Nat → Option Nat} {iv tv : Value} (h : Tabl w T B ids terms M c f iv tv) (k : Kp S w w') (hm : MapIs w' M c' f') (hT : T ∉ S) (hi : ∀ x ∈ S, iv.ownBlock ≠ some x) (ht : ∀ x ∈ S, tv.ownBlock ≠ some x) : Tabl w' T B ids terms M c' f' iv tv :=
  ⟨k.heap h.blk hT, k.owns h.ids (fun g hg hx => hi g hx hg), k.owns h.terms (fun g hg hx => ht g hx hg), hm, h.leT, h.leM⟩

end Go.Proofs.YtpdoacfiiledcaaGreatDoor.Pak

namespace Go.Proofs.YtpdoacfiiledcaaGreatDoor.Pak
open Go.RowKit Go.Proofs.YtpdoacfiiledcaaGreatDoor Go.Proofs.YtpdoacfiiledcaaGreatDoor.Spl SiftM
set_option linter.unusedVariables false

theorem strs_cells {w : World} {base n g cap : Nat} {l : List (List UInt8)} (h : w.ownsRow base 9 1 (.slice (some ⟨g, 0, none⟩) n cap) n (strV l)) (hl : l.length = n) : ∀ i (hi : i < l.length), w.cell? ⟨g, i, none⟩ = some (.string ⟨l[i].toArray⟩) := by
  intro i hi
  have := h.cells (g := g) rfl i (.string ⟨l[i].toArray⟩) (by simp [strV, hi])
  have e : (⟨g, 0, none⟩ : Addr).add i = ⟨g, i, none⟩ := by unfold Addr.add; split <;> simp_all
  rwa [e] at this

end Go.Proofs.YtpdoacfiiledcaaGreatDoor.Pak

