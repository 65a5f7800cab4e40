import Derived.Test.YtbkepgmgebmceaaGreatDoorU20

set_option linter.unusedVariables false
set_option maxRecDepth 4000
namespace Go.Proofs.YtbkepgmgebmceaaGreatDoor.Pak
open Go.RowKit Go.Proofs.YtbkepgmgebmceaaGreatDoor Go.Proofs.YtbkepgmgebmceaaGreatDoor.Spl SiftM

/-- What a call gives that appends to a list of bytes. -/
def Out (w : World) (base : Nat) (l : List UInt8) (e : Ending) (w' : World) : Prop := ∃ (a' : Option Addr) (cap' n' : Nat), l.length = n' ∧ e = .returned (.slice a' n' cap') ∧ w'.ownsRow base 5 1 (.slice a' n' cap') n' (byV l) ∧ Kb 5 [] base w w'

set_option maxHeartbeats 800000 in
set_option maxRecDepth 100000 in
theorem rput_any (base : Nat) (v : Value) (l : List UInt8) (n : Nat) (w : World) (h : w.ownsRow base 5 1 v l.length (byV l)) (hb : base ≤ w.heap.size) (hl : l.length ≤ 2000000) (hn : n < 268435456) :
    Calls Tryz.prog 244 #[v, .int .i64 n] w (Out w base (l ++ numB n)) := by
  obtain ⟨i0, hi, hz0, hz1, hz2⟩ := info_parts info5
  obtain ⟨a0, c0, rfl, _⟩ := owns_forms h
  have HO := hide h
  clear h
  go_enter Tryz.func244, Tryz.ntmps244
  go_wp2_with fail
  go_loopw [0, 1] (fun ov nv wr => ∃ (f m : Nat) (acc : List UInt8) (a : Option Addr) (cap : Nat), f ≤ 3 ∧ m < 128 ^ (f + 1) ∧ nv = .int .i64 m ∧ ov = .slice a acc.length cap ∧ acc ++ numG f m = l ++ numB n ∧ acc.length + f ≤ 2000004 ∧ base ≤ wr.heap.size ∧ wr.ownsRow base 5 1 (.slice a acc.length cap) acc.length (byV acc) ∧ Kb 5 [] base w wr) (fun _ nv _ => (intOf nv).toNat)
  case atStart => exact ⟨3, n, l, a0, c0, by omega, by omega, rfl, rfl, rfl, by omega, hb, HO.out, Kb.refl _ _ _ _⟩
  case round =>
    clear HO
    obtain ⟨f, m, acc, a, cap, hf, hm, rfl, rfl, hacc, hlen, hbase, hown, hkb⟩ := hrel
    have hm28 : m < 268435456 := by
      have : 128 ^ (f + 1) ≤ 128 ^ 4 := Nat.pow_le_pow_right (by omega) (by omega)
      omega
    by_cases hlow : m < 128
    · have hd : Hid (l ++ numB n = acc ++ [UInt8.ofNat m]) := by
        show _ = _
        rw [← hacc, numG_low f m hlow]
      have Hm := hide hm
      clear hacc hm
      go_wp2_with (first
        | (at_builtin; refine wpList_append_own_at _ rfl _ _ 109 rfl base 5 i0 (.int .u8 0) 1 1 Tryz.underlying109 hi hz0 hz1 hz2 rfl (by decide) _ _ _ rfl (hown.alloc _) ⟨wr.heap.size, 0, none⟩ 1 1 [.int .u8 m] rfl rfl (one_new _ _ _) (one_cell _ _) ?c1 ?c2 ?c3 ?_)
        | fail)
      case c1 => unfold maxLen; omega
      case c2 => omega
      case c3 => simp; omega
      intro v' w2 hown2 hgrow _ _
      obtain ⟨a', cap', rfl, _⟩ := owns_forms hown2
      have kf : Kb 5 [] base w w2 := (hkb.alloc _).grown (hown.alloc _) hgrow
      have HO2 := hide hown2
      clear hown2 hown
      go_wp2_with fail
      go_ret
      refine ⟨a', cap', _, ?_, rfl, ?_, kf⟩
      · rw [hd.out, List.length_append]; rfl
      · rw [hd.out, byV_append]
        simp only [byV, List.map_cons, List.map_nil, ofNat_toNat m (by omega)]
        exact HO2.out
    · obtain ⟨q, hq⟩ : ∃ q, m % 128 = q := ⟨_, rfl⟩
      obtain ⟨r, hr⟩ : ∃ r, m / 128 = r := ⟨_, rfl⟩
      have hA : ((m : Int) % 128) = (q : Int) := by omega
      have hS : ((m : Int) / 128) = (r : Int) := by omega
      have hA2 : (m : Int).tmod 128 = (q : Int) := by rw [Int.tmod_eq_emod_of_nonneg (by omega)]; exact hA
      have hS2 : (m : Int).tdiv 128 = (r : Int) := by rw [Int.tdiv_eq_ediv_of_nonneg (by omega)]; exact hS
      have q128 : q < 128 := by omega
      have hf0 : f ≠ 0 := by rintro rfl; simp at hm; omega
      obtain ⟨f', rfl⟩ : ∃ f', f = f' + 1 := ⟨f - 1, by omega⟩
      have hd : Hid ((acc ++ [UInt8.ofNat (q + 128)]) ++ numG f' r = l ++ numB n) := by
        show _ = _
        rw [← hacc, numG, if_neg hlow, hq, hr]; simp
      have hr2 : Hid (r < 128 ^ (f' + 1)) := by
        show r < _
        rw [← hr]
        exact Nat.div_lt_of_lt_mul (by rw [Nat.pow_succ] at hm; omega)
      have hrm : r < m := by omega
      have Hm := hide hm
      clear hacc hm hq hr
      go_wp2_with (first
        | (at_builtin; refine wpList_append_own_at _ rfl _ _ 109 rfl base 5 i0 (.int .u8 0) 1 1 Tryz.underlying109 hi hz0 hz1 hz2 rfl (by decide) _ _ _ rfl (hown.alloc _) ⟨wr.heap.size, 0, none⟩ 1 1 [.int .u8 (q + 128)] rfl rfl (one_new _ _ _) (one_cell _ _) ?c1 ?c2 ?c3 ?_)
        | fail)
      case c1 => unfold maxLen; omega
      case c2 => omega
      case c3 => simp; omega
      intro v' w2 hown2 hgrow _ _
      obtain ⟨a', cap', rfl, _⟩ := owns_forms hown2
      have kf : Kb 5 [] base w w2 := (hkb.alloc _).grown (hown.alloc _) hgrow
      have hz2' := hgrow.size
      simp at hz2'
      have HO2 := hide hown2
      clear hown2 hown
      go_wp2_with fail
      go_roundw
      case rel =>
        refine ⟨f', r, acc ++ [UInt8.ofNat (q + 128)], a', cap', by omega, hr2.out, by go_num, by simp, hd.out, by simp; omega, by omega, ?_, kf⟩
        rw [byV_append, List.length_append]
        simp only [byV, List.map_cons, List.map_nil, ofNat_toNat (q + 128) (by omega)]
        exact HO2.out
      case measure => simp [intOf]; omega
end Go.Proofs.YtbkepgmgebmceaaGreatDoor.Pak

set_option linter.unusedVariables false
set_option maxRecDepth 4000
namespace Go.Proofs.YtbkepgmgebmceaaGreatDoor.Pak
open Go.RowKit Go.Proofs.YtbkepgmgebmceaaGreatDoor Go.Proofs.YtbkepgmgebmceaaGreatDoor.Spl SiftM

set_option maxHeartbeats 300000 in
set_option maxRecDepth 100000 in
theorem rrising_any (base base' : Nat) (v u : Value) (l : List UInt8) (xs : List Nat) (w : World) (h : w.ownsRow base 5 1 v l.length (byV l)) (hu : w.ownsRow base' 3 1 u xs.length (intV xs)) (hb : base ≤ w.heap.size) (hl : l.length + 4 * xs.length ≤ 2000000) (hx : xs.length ≤ 4000) (hr : Rs 0 xs) (hbd : ∀ x ∈ xs, x < 268435456) :
    Calls Tryz.prog 245 #[v, u] w (Out w base (l ++ riseB 0 xs)) := by
  obtain ⟨a0, c0, rfl, _⟩ := owns_forms h
  obtain ⟨au, cu, rfl, hau⟩ := owns_forms hu
  have HO := hide h
  have HU := hide hu
  clear h hu
  go_enter Tryz.func245, Tryz.ntmps245
  go_wp2_with fail
  go_loopw [0, 5] (fun ov iv wr => ∃ (k : Nat) (a : Option Addr) (cap n : Nat), k ≤ xs.length ∧ iv = .int .i64 k ∧ n = (l ++ riseB 0 (xs.take k)).length ∧ ov = .slice a n cap ∧ wr.ownsRow base 5 1 (.slice a n cap) n (byV (l ++ riseB 0 (xs.take k))) ∧ wr.ownsRow base' 3 1 (.slice au xs.length cu) xs.length (intV xs) ∧ base ≤ wr.heap.size ∧ Kb 5 [] base w wr) (fun _ iv _ => xs.length - (intOf iv).toNat)
  case atStart => exact ⟨0, a0, c0, l.length, by omega, rfl, by simp [riseB], rfl, by simpa [riseB] using HO.out, HU.out, hb, Kb.refl _ _ _ _⟩
  case round =>
    clear HO HU
    obtain ⟨k, a, cap, n, hk, rfl, hn, rfl, ho, hu, hbase, hkb⟩ := hrel
    by_cases hlt : k < xs.length
    · obtain ⟨g, rfl⟩ := hau (by omega)
      have hc := ints_cells hu rfl k hlt
      have hsp := hide (rise_split xs 0 k hlt)
      have hat := rs_at xs 0 k hlt hr
      have hbx := hbd xs[k] (List.getElem_mem hlt)
      have hlen := riseB_len (xs.take k) 0
      have htl : (xs.take k).length ≤ xs.length := by rw [List.length_take]; omega
      have hgl := (hu.lt g rfl).2
      obtain ⟨x, hxE⟩ : ∃ x, xs[k] = x := ⟨_, rfl⟩
      rw [hxE] at hc hat hbx hsp
      have hnl : n ≤ 2000000 := by rw [hn, List.length_append]; omega
      have HPUT : ∀ m : Nat, m < 268435456 → Hid (Calls Tryz.prog 244 #[.slice a n cap, .int .i64 (m : Int)] wr (Out wr base ((l ++ riseB 0 (xs.take k)) ++ numB m))) := by
        intro m hm
        have := rput_any base (.slice a n cap) (l ++ riseB 0 (xs.take k)) m wr (by rw [← hn]; exact ho) hbase (by rw [← hn]; exact hnl) hm
        exact this
      have HPUD : ∀ m : Nat, m < 268435456 → Hid (Calls Tryz.prog 244 #[.slice a n cap, .int .i64 (m : Int)] wr.drew (Out wr.drew base ((l ++ riseB 0 (xs.take k)) ++ numB m))) := by
        intro m hm
        have := rput_any base (.slice a n cap) (l ++ riseB 0 (xs.take k)) m wr.drew (by rw [← hn]; exact ho.drew) hbase (by rw [← hn]; exact hnl) hm
        exact this
      have HU := hide hu
      clear ho hu hxE hn hlen htl
      by_cases h0 : k = 0
      · subst h0
        have hp := HPUT x (by omega)
        have he : Hid (l ++ riseB 0 (xs.take (0 + 1)) = (l ++ riseB 0 (xs.take 0)) ++ numB x) := by
          show _ = _
          rw [hsp.out]; simp
        clear HPUT HPUD hsp
        go_wp2_with fail
        refine hp.out.mono ?_
        rintro e w2 ⟨a2, c2, n2, hn2, rfl, ho2, k2⟩
        have hz2 := k2.size
        have hu2 := k2.owns HU.out (by decide) (by simp)
        have Hn2 := hide hn2
        have HO2 := hide ho2
        have HU2 := hide hu2
        have kf := hkb.next k2
        clear ho2 hu2 hp HU k2 hc hn2
        go_wp2_with fail
        go_roundw
        case rel => exact ⟨0 + 1, a2, c2, n2, by omega, by go_num, by rw [he.out]; exact Hn2.out.symm, rfl, by rw [he.out]; exact HO2.out, HU2.out, by omega, kf⟩
        case measure => simp [intOf]; omega
      · have hk1 : k - 1 < xs.length := by omega
        have hc1 := ints_cells HU.out rfl (k - 1) hk1
        have hgd : xs.getD (k - 1) 0 = xs[k - 1] := by rw [List.getD_eq_getElem?_getD, List.getElem?_eq_getElem hk1]; rfl
        rw [if_neg h0, hgd] at hat hsp
        obtain ⟨y, hy⟩ : ∃ y, xs[k - 1] = y := ⟨_, rfl⟩
        rw [hy] at hc1 hat hsp
        have hp := HPUD (x - (y + 1)) (by omega)
        have he : Hid (l ++ riseB 0 (xs.take (k + 1)) = (l ++ riseB 0 (xs.take k)) ++ numB (x - (y + 1))) := by
          show _ = _
          rw [hsp.out]; simp
        obtain ⟨j, hj⟩ : ∃ j, k = j + 1 := ⟨k - 1, by omega⟩
        subst hj
        rw [Nat.add_sub_cancel] at hc1
        have hsub : (x : Int) - (y : Int) - 1 = ((x - (y + 1) : Nat) : Int) := by omega
        obtain ⟨dd, hdd⟩ : ∃ dd, x - (y + 1) = dd := ⟨_, rfl⟩
        rw [hdd] at hp he hsub
        have Hsub := hide hsub
        have hyx : y + 1 ≤ x := hat
        clear HPUT HPUD hsp hgd hy h0 hsub hdd
        go_wp2_with fail
        go_region
        rw [show (x : Int) - (y : Int) - 1 = (dd : Int) from Hsub.out]
        go_wp2_with fail
        refine hp.out.mono ?_
        rintro e w2 ⟨a2, c2, n2, hn2, rfl, ho2, k2⟩
        have hz2 := k2.size
        have hu2 := k2.owns (HU.out.drew) (by decide) (by simp)
        have Hn2 := hide hn2
        have HO2 := hide ho2
        have HU2 := hide hu2
        have kf := (hkb.next (Kb.of_kp (S := []) ((Kp.refl [] wr).drewN 1) (by simp))).next k2
        have hz3 : wr.heap.size ≤ w2.heap.size := hz2
        clear ho2 hu2 hp HU k2 hc hc1 hn2
        go_wp2_with fail
        go_roundw
        case rel => exact ⟨j + 1 + 1, a2, c2, n2, by omega, by go_num, by rw [he.out]; exact Hn2.out.symm, rfl, by rw [he.out]; exact HO2.out, HU2.out, by omega, kf⟩
        case measure => simp [intOf]; omega
    · have ek : k = xs.length := by omega
      subst ek
      rw [List.take_length] at ho hn
      have HO := hide ho
      have Hn := hide hn
      clear ho hn hu
      go_wp2_with fail
      go_ret
      exact ⟨a, cap, n, Hn.out.symm, rfl, HO.out, hkb⟩

set_option maxHeartbeats 300000 in
theorem rsum_any (a : Option Addr) (cap n : Nat) (l : List UInt8) (w : World) (hv : Vw w w.heap.size a l) (hn : l.length = n) (hl : n ≤ 4000000) :
    Calls Tryz.prog 88 #[.slice a n cap] w fun e w' => e = .returned (.slice (some ⟨w.heap.size, 0, none⟩) 4 4) ∧ w'.ownsRow w.heap.size 5 1 (.slice (some ⟨w.heap.size, 0, none⟩) 4 4) 4 (byV (sumB l)) ∧ Kp [] w w' := by
  have HV := hide hv
  have Hn := hide hn
  clear hv hn
  go_enter Tryz.func88, Tryz.ntmps88
  go_wp2_with fail
  go_loopw [3, 4, 5] (fun av bv iv wr => ∃ k : Nat, k ≤ n ∧ iv = .int .i64 k ∧ av = .int .i64 ((adl (l.take k) (1, 0)).1 : Nat) ∧ bv = .int .i64 ((adl (l.take k) (1, 0)).2 : Nat) ∧ wr = w) (fun _ _ iv _ => n - (intOf iv).toNat)
  case atStart => exact ⟨0, by omega, rfl, rfl, rfl, rfl⟩
  case round =>
    obtain ⟨k, hk, rfl, rfl, rfl, rfl⟩ := hrel
    have hlt2 := adl_lt (l.take k) (1, 0) (by decide) (by decide)
    by_cases hlt : k < n
    · have hkl : k < l.length := by rw [Hn.out]; exact hlt
      obtain ⟨g, off, rfl, hg, hc⟩ : ∃ g off, a = some ⟨g, off, none⟩ ∧ g < wr.heap.size ∧ ∀ j (h : j < l.length), wr.cell? ⟨g, off + j, none⟩ = some (.int .u8 (l[j].toNat : Int)) := by
        rcases HV.out with ⟨h, _⟩ | h
        · subst h; simp at hkl
        · exact h
      have hck := hc k hkl
      have hsn := hide (adl_snoc (l.take k) l[k] (1, 0))
      rw [← take_snocL l k hkl] at hsn
      have c256 : l[k].toNat < 256 := l[k].toNat_lt
      obtain ⟨x, hx⟩ : ∃ x, (adl (l.take k) (1, 0)).1 = x := ⟨_, rfl⟩
      obtain ⟨y, hy⟩ : ∃ y, (adl (l.take k) (1, 0)).2 = y := ⟨_, rfl⟩
      obtain ⟨c, hc'⟩ : ∃ c, l[k].toNat = c := ⟨_, rfl⟩
      rw [hx, hy, hc'] at hsn
      rw [hx, hy] at hlt2 ⊢
      rw [hc'] at hck c256
      obtain ⟨h1, h2⟩ := hlt2
      clear hc hx hy hc'
      go_wp2_with fail
      go_roundw
      case rel =>
        refine ⟨k + 1, by omega, by go_num, ?_, ?_, by trivial⟩
        · rw [hsn.out]; go_num
        · rw [hsn.out]; go_num
      case measure => simp [intOf]; omega
    · have e : n = k := by omega
      subst e
      rw [show l.take n = l by rw [← Hn.out, List.take_length]] at hlt2 ⊢
      have hres : Hid (byV (sumB l) = [.int .u8 (((adl l (1, 0)).2 / 256 : Nat) : Int), .int .u8 (((adl l (1, 0)).2 % 256 : Nat) : Int), .int .u8 (((adl l (1, 0)).1 / 256 : Nat) : Int), .int .u8 (((adl l (1, 0)).1 % 256 : Nat) : Int)]) := sumB_V l
      obtain ⟨x, hx⟩ : ∃ x, (adl l (1, 0)).1 = x := ⟨_, rfl⟩
      obtain ⟨y, hy⟩ : ∃ y, (adl l (1, 0)).2 = y := ⟨_, rfl⟩
      rw [hx, hy] at hlt2 hres ⊢
      obtain ⟨h1, h2⟩ := hlt2
      clear hx hy
      go_wp2_with fail
      go_ret
      refine ⟨rfl, ?_, (Kp.refl _ _).alloc _⟩
      have e : byV (sumB l) = [.int .u8 ((y : Int) / 256), .int .u8 ((y : Int) % 256), .int .u8 ((x : Int) / 256), .int .u8 ((x : Int) % 256)] := by rw [hres.out]; simp
      rw [e]
      exact ⟨rfl, .inr ⟨wr.heap.size, 4, #[.int .u8 ((y : Int) / 256), .int .u8 ((y : Int) % 256), .int .u8 ((x : Int) / 256), .int .u8 ((x : Int) % 256)], rfl, Nat.le_refl _, heap_alloc_new wr _, Nat.le_refl _, by unfold maxLen; omega, rfl, rfl⟩⟩

set_option maxHeartbeats 300000 in
theorem rsealed_any (base : Nat) (a : Option Addr) (cap n : Nat) (l : List UInt8) (w : World) (h : w.ownsRow base 5 1 (.slice a n cap) n (byV l)) (hn : l.length = n) (hb : base ≤ w.heap.size) (hl : n ≤ 2000000) :
    Calls Tryz.prog 247 #[.slice a n cap] w (Out w base (l ++ sumB l)) := by
  obtain ⟨i0, hi, hz0, hz1, hz2⟩ := info_parts info5
  have hs := rsum_any a cap n l w (vw_of_owns h hn) hn (by omega)
  have HO := hide h
  have HS := hide hs
  have Hn := hide hn
  clear h hs hn
  go_enter Tryz.func247, Tryz.ntmps247
  go_wp2_with fail
  refine HS.out.mono ?_
  rintro e w1 ⟨rfl, hs1, k1⟩
  have ho1 := k1.owns HO.out (by simp)
  have hz1' := k1.size
  have HS1 := hide hs1
  have HO1 := hide ho1
  clear hs1 ho1 HS HO
  go_wp2_with (first
    | (at_builtin; refine wpList_append_own_at _ rfl _ _ 109 rfl base 5 i0 (.int .u8 0) 1 1 Tryz.underlying109 hi hz0 hz1 hz2 rfl (by decide) _ _ _ rfl HO1.out ⟨w.heap.size, 0, none⟩ 4 4 (byV (sumB l)) rfl (by rw [byV_length]; rfl) (HS1.out.cells (g := w.heap.size) rfl) ?c0 ?c1 ?c2 ?c3 ?_)
    | fail)
  case c0 => intro u hu; unfold byV at hu; obtain ⟨c, _, rfl⟩ := List.mem_map.1 hu; rfl
  case c1 => unfold maxLen; omega
  case c2 => omega
  case c3 => omega
  intro v2 w2 ho2 hgrow _ _
  obtain ⟨a2, c2, rfl, _⟩ := owns_forms ho2
  have kf : Kb 5 [] base w w2 := (Kb.of_kp (S := []) k1 (by simp)).grown HO1.out hgrow
  have HO2 := hide ho2
  clear ho2 hgrow HO1 HS1
  go_wp2_with fail
  go_ret
  refine ⟨a2, c2, n + 4, ?_, rfl, ?_, kf⟩
  · rw [List.length_append, Hn.out]; rfl
  · rw [byV_append]; exact HO2.out

/-- The places of a word among words, of the first k. -/
def plW (ws : List (List UInt8)) (t : List UInt8) : Nat → List Nat
  | 0 => []
  | k + 1 => plW ws t k ++ (if ws.getD k [] = t then [k] else [])
theorem plW_len (ws : List (List UInt8)) (t : List UInt8) : ∀ k, (plW ws t k).length ≤ k
  | 0 => by simp [plW]
  | k + 1 => by
    have := plW_len ws t k
    simp only [plW, List.length_append]
    split <;> simp <;> omega

set_option maxHeartbeats 300000 in
theorem rplaces_any (B : Nat) (u : Value) (ws : List (List UInt8)) (t : List UInt8) (w : World) (hu : w.ownsRow B 9 1 u ws.length (strV ws)) (hl : ws.length ≤ 100000) :
    Calls Tryz.prog 309 #[u, .string ⟨t.toArray⟩] w fun e w' => ∃ (a' : Option Addr) (c' n' : Nat), (plW ws t ws.length).length = n' ∧ e = .returned (.slice a' n' c') ∧ w'.ownsRow w.heap.size 3 1 (.slice a' n' c') n' (intV (plW ws t ws.length)) ∧ Kp [] w w' := by
  obtain ⟨i0, hi, hz0, hz1, hz2⟩ := info_parts info3
  obtain ⟨au, cu, rfl, hau⟩ := owns_forms hu
  obtain ⟨n, hn⟩ : ∃ n, ws.length = n := ⟨_, rfl⟩
  rw [hn] at hu hl hau
  rw [hn]
  have HU := hide hu
  have Hn := hide hn
  clear hu hn
  go_enter Tryz.func309, Tryz.ntmps309
  go_wp2_with fail
  go_loopw [5, 6] (fun lv iv wr => ∃ (k : Nat) (a : Option Addr) (c m : Nat), k ≤ n ∧ iv = .int .i64 k ∧ lv = .slice a m c ∧ (plW ws t k).length = m ∧ wr.ownsRow w.heap.size 3 1 (.slice a m c) m (intV (plW ws t k)) ∧ Kp [] w wr) (fun _ iv _ => n - (intOf iv).toNat)
  case atStart => exact ⟨0, none, 0, 0, by omega, rfl, rfl, rfl, World.ownsRow_nil _ _ _ _, Kp.refl _ _⟩
  case round =>
    obtain ⟨k, a, c, m, hk, rfl, rfl, hm, ho, hkp⟩ := hrel
    by_cases hlt : k < n
    · obtain ⟨g, rfl⟩ := hau (by omega)
      have hkw : k < ws.length := by rw [Hn.out]; exact hlt
      have hur := hkp.owns HU.out (by simp)
      have hc := strs_cells hur Hn.out k hkw
      have hgl := (hur.lt g rfl).2
      have hml : m ≤ k := by rw [← hm]; exact plW_len ws t k
      have hst : Hid (plW ws t (k + 1) = plW ws t k ++ (if ws[k] = t then [k] else [])) := by
        show _ = _
        rw [plW, List.getD_eq_getElem?_getD, List.getElem?_eq_getElem hkw]; rfl
      obtain ⟨x, hx⟩ : ∃ x, ws[k] = x := ⟨_, rfl⟩
      rw [hx] at hc hst
      have HO := hide ho
      have Hm := hide hm
      clear ho hm hur hx
      by_cases hxt : x = t
      · subst hxt
        rw [if_pos rfl] at hst
        go_wp2_with (first
          | (at_builtin; refine wpList_append_own_at _ rfl _ _ 24 rfl w.heap.size 3 i0 (.int .i64 0) 1 8 Tryz.underlying24 hi hz0 hz1 hz2 rfl (by decide) _ _ _ rfl (HO.out.alloc _) ⟨wr.heap.size, 0, none⟩ 1 1 [.int .i64 k] rfl rfl (one_new _ _ _) (one_cell _ _) ?c1 ?c2 ?c3 ?_)
          | fail)
        case c1 => unfold maxLen; omega
        case c2 => omega
        case c3 => have := hkp.size; simp; omega
        intro v2 w2 ho2 hgrow _ _
        obtain ⟨a2, c2, rfl, _⟩ := owns_forms ho2
        have k2 : Kp (Value.slice a m c).ownBlock.toList wr w2 := ((Kp.refl _ _).alloc _).grown hgrow (fun j hj => .inl (by simp [hj]))
        have kf : Kp [] w w2 := hkp.trans k2 (fun y hy => .inr (HO.out.lt y (by simpa using hy)).1)
        have HO2 := hide ho2
        clear ho2 hgrow k2 HO
        go_wp2_with fail
        go_roundw
        case rel =>
          refine ⟨k + 1, a2, c2, m + 1, by omega, by go_num, rfl, ?_, ?_, kf⟩
          · rw [hst.out, List.length_append, Hm.out]; rfl
          · rw [hst.out]
            have e : intV (plW ws x k ++ [k]) = intV (plW ws x k) ++ [.int .i64 (k : Int)] := by simp [intV]
            rw [e]; exact HO2.out
        case measure => simp [intOf]; omega
      · rw [if_neg hxt] at hst
        have hne : (x == t) = false := by simpa using hxt
        rw [List.append_nil] at hst
        go_wp2_with fail
        go_roundw
        case rel =>
          refine ⟨k + 1, a, c, m, by omega, by go_num, rfl, ?_, ?_, hkp⟩
          · rw [hst.out]; exact Hm.out
          · rw [hst.out]; exact HO.out
        case measure => simp [intOf]; omega
    · have ek : n = k := by omega
      subst ek
      have HO := hide ho
      have Hm := hide hm
      clear ho hm
      go_wp2_with fail
      go_ret
      exact ⟨a, c, m, Hm.out, rfl, HO.out, hkp⟩
end Go.Proofs.YtbkepgmgebmceaaGreatDoor.Pak

namespace Go.Proofs.YtbkepgmgebmceaaGreatDoor.Pak
open Go.RowKit Go.Proofs.YtbkepgmgebmceaaGreatDoor Go.Proofs.YtbkepgmgebmceaaGreatDoor.Spl SiftM
set_option linter.unusedVariables false

def termN (N : Nat) (s : TS) : Nat → TS
  | 0 => s
  | k + 1 => termF N (termN N s k)
def no : Nat → Nat → Option Nat := fun _ _ => none
def stMark (st : Option (List UInt8)) : Option (List UInt8) := if (textF st 1).1 = [83] then (textF st 1).2 else none
/-- What a reader gives: the ids, and the rest. -/
def tableF (st : Option (List UInt8)) : List Nat × TS :=
  let n := numF (stMark st) 0 60
  let r := riseN 99999 n.2 n.1
  let m := numF r.2.2 0 3600
  (r.1, termN r.1.length ([], 0, no, m.2) m.1)
theorem termN_len (N : Nat) (s : TS) : ∀ k, (termN N s k).1.length = s.1.length + k
  | 0 => rfl
  | k + 1 => by
    have := termN_len N s k
    simp only [termN, termF, List.length_append, List.length_singleton]; omega
theorem termN_c (N : Nat) (hN : N ≤ 60) (s : TS) : ∀ k, (termN N s k).2.1 ≤ s.2.1 + 3600 * k
  | 0 => by simp [termN]
  | k + 1 => by
    have h := termN_c N hN s k
    simp only [termN, termF]
    generalize termN N s k = x at *
    obtain ⟨ts, c, f, st⟩ := x
    simp only at h ⊢
    have h2 := docN_c ts.length N (0, c, f, (numF (stTerm ts st) 1 N).2) (numF (stTerm ts st) 1 N).1
    have h3 := numF_le (stTerm ts st) 1 N
    simp only at h2
    omega

set_option maxHeartbeats 2000000 in
set_option maxRecDepth 100000 in
theorem table_rd (R B : Nat) (st : Option (List UInt8)) (w : World) (h : Rd w R B st) (hBw : B ≤ w.heap.size) :
    Calls Tryz.prog 249 #[.pointer (some ⟨R, 0, none⟩)] w fun e w' => ∃ T M iv tv,
      e = .returned (.agg #[iv, tv, .map (some M)]) ∧ Rd w' R B (tableF st).2.2.2.2 ∧ Tabl w' T B (tableF st).1 (tableF st).2.1 M (tableF st).2.2.1 (tableF st).2.2.2.1 iv tv ∧ Below B w w' := by
  have hmm := @run_makeMap Tryz.prog
  have hRB := h.le
  obtain ⟨x0, y0, hb⟩ := h.block
  have hRw := heap_lt hb
  unfold tableF stMark
  have ht1 := fun w' (h' : Rd w' R B st) => text_rd R B st 1 w' h' (by omega)
  obtain ⟨tm, s1, hE1⟩ : ∃ t s, textF st 1 = (t, s) := ⟨_, _, rfl⟩
  rw [hE1] at ht1 ⊢
  simp only at ht1 ⊢
  obtain ⟨s2, hs2⟩ : ∃ s2, (if tm = [83] then s1 else none) = s2 := ⟨_, rfl⟩
  rw [hs2]
  have hn2 := fun w' (h' : Rd w' R B s2) => number_rd R B s2 0 60 w' h'
  have hn60 := numF_le s2 0 60
  rw [show ((60 : Nat) : Int) = 60 from rfl] at hn60
  obtain ⟨n, s3, hE3⟩ : ∃ n s, numF s2 0 60 = (n, s) := ⟨_, _, rfl⟩
  rw [hE3] at hn2 hn60 ⊢
  simp only at hn2 hn60 ⊢
  have hri := fun w' (h' : Rd w' R B s3) (hB' : B ≤ w'.heap.size) => rising_rd R B s3 n 99999 w' h' (by omega) (by omega) (by omega) hB'
  have hidl := riseN_len 99999 s3 n
  obtain ⟨ids, le, s4, hE4⟩ : ∃ l le s, riseN 99999 s3 n = (l, le, s) := ⟨_, _, _, rfl⟩
  rw [hE4] at hri hidl ⊢
  simp only at hri hidl ⊢
  have hn5 := fun w' (h' : Rd w' R B s4) => number_rd R B s4 0 3600 w' h'
  have hm36 := numF_le s4 0 3600
  rw [show ((3600 : Nat) : Int) = 3600 from rfl] at hm36
  obtain ⟨m, s5, hE5⟩ : ∃ n s, numF s4 0 3600 = (n, s) := ⟨_, _, rfl⟩
  rw [hE5] at hn5 hm36 ⊢
  simp only at hn5 hm36 ⊢
  have htl := termN_len ids.length ([], 0, no, s5)
  have htc := termN_c ids.length (by omega) ([], 0, no, s5)
  simp only [List.length_nil, Nat.zero_add] at htl htc
  have HH := hide h
  have Ht1 := hide ht1
  have Hs2 := hide hs2
  have Hn2 := hide hn2
  have Hri := hide hri
  have Hn5 := hide hn5
  have Htl := hide htl
  have Htc := hide htc
  have Hidl := hide hidl
  clear h ht1 hs2 hn2 hri hn5 hE1 hE3 hE4 hE5 hb x0 y0 htl htc hidl
  go_enter Tryz.func249, Tryz.ntmps249
  go_wp2_with fail
  obtain ⟨W0, hW0⟩ : ∃ W0, w.alloc (.cells #[.slice none 0 0, .slice none 0 0, .map none] 290) = W0 := ⟨_, rfl⟩
  rw [hW0]
  have k0 : Kp [] w W0 := by rw [← hW0]; exact (Kp.refl _ _).alloc _
  have hT0 : W0.heap[w.heap.size]? = some (.cells #[.slice none 0 0, .slice none 0 0, .map none] 290 (0, 0)) := by rw [← hW0]; exact heap_alloc_new w _
  have hsz0 : W0.heap.size = w.heap.size + 1 := by rw [← hW0]; simp
  have hR0 := HH.out.kp k0 (by simp) (by simp)
  have HT0 := hide hT0
  clear hT0 hW0
  refine (Ht1.out W0 hR0).mono ?_
  rintro e w1 ⟨rfl, hr1, hk1⟩
  have HR1 := hide hr1
  clear hr1 hR0
  by_cases htm : tm = [83]
  case' pos =>
    subst htm
    go_wp2_with fail
    obtain ⟨w2, hw2⟩ : ∃ w2, w2 = w1 := ⟨_, rfl⟩
    subst hw2
    have HR2 : Hid (Rd w2 R B s2) := by
      have e := Hs2.out
      rw [if_pos (by simp)] at e
      rw [← e]; exact HR1.out
    have hk2 := hk1
  case' neg =>
    have hne : (tm == [83]) = false := by simpa using htm
    go_wp2_with fail
    refine (fail_any R B hRB _ _ w1 (Classical.choose_spec (Classical.choose_spec HR1.out.block))).mono ?_
    rintro e w2 ⟨rfl, hr2, hk2'⟩
    have HR2 : Hid (Rd w2 R B s2) := by
      have e := Hs2.out
      rw [if_neg htm] at e
      rw [← e]; exact hr2
    have hk2 := hk1.next hk2'
    clear hr2 hk2' hne
    go_wp2_with fail
  all_goals
    have hk02 : Kp [R] w w2 := k0.mono (by simp) |>.next hk2
    have hT2 := hk2.heap HT0.out (by simp; omega)
    have hsz2 := hk2.size
    obtain ⟨W3, hW3⟩ : ∃ W3, (w2.alloc (.map #[] 0)).alloc (.cells #[.slice none 0 0, .slice none 0 0, .map (some w2.heap.size)] 290) = W3 := ⟨_, rfl⟩
    rw [hW3]
    have k3 : Kp [] w2 W3 := by rw [← hW3]; exact ((Kp.refl _ _).alloc _).alloc _
    have hT3 : W3.heap[w2.heap.size + 1]? = some (.cells #[.slice none 0 0, .slice none 0 0, .map (some w2.heap.size)] 290 (0, 0)) := by
      rw [← hW3]
      have := heap_alloc_new (w2.alloc (.map #[] 0)) (.cells #[.slice none 0 0, .slice none 0 0, .map (some w2.heap.size)] 290)
      simpa using this
    have hM3 : MapIs W3 w2.heap.size 0 no := by
      have := mapIs_made w2
      refine MapIs.kp (S := []) this ?_ (by simp)
      rw [← hW3]; exact (Kp.refl _ _).alloc _
    have hsz3 : W3.heap.size = w2.heap.size + 2 := by rw [← hW3]; simp
    have hR3 := HR2.out.kp k3 (by simp) (by simp)
    have hT03 := k3.heap hT2 (by simp)
    have k03 : Kp [R] w W3 := hk02.next (k3.mono (by simp))
    have HT3 := hide hT3
    have HM3 := hide hM3
    have HT03 := hide hT03
    clear hT3 hM3 hT03 hT2 hW3 k3 HT0
    refine (Hn2.out W3 hR3).mono ?_
    rintro e w4 ⟨rfl, hr4, hk4⟩
    have HR4 := hide hr4
    have hsz4 := hk4.size
    clear hr4 hR3
    go_wp2_with fail
    refine (Hri.out w4 HR4.out (by omega)).mono ?_
    rintro e w5 ⟨v, rfl, hv5, hr5, hk5⟩
    have hk35 := hk4.next hk5
    have hT5 := hk35.heap HT3.out (by simp; omega)
    have hM5 := HM3.out.kp hk35 (by simp; omega)
    have hT05 := hk35.heap HT03.out (by simp; omega)
    have hsz5 := hk5.size
    obtain ⟨d0, d1, d2, gz0, gz1, gz2⟩ := tb_cells hT5
    obtain ⟨av, cv, ev, _⟩ := owns_forms hv5
    subst ev
    obtain ⟨W6, hW6⟩ : ∃ W6, w5.setCell ⟨w2.heap.size + 1, 0, none⟩ (.slice av n cv) = W6 := ⟨_, rfl⟩
    have k6 : Kp [w2.heap.size + 1] w5 W6 := by rw [← hW6]; exact (Kp.refl _ _).setCell (.inl (by simp)) _
    have hT6 : W6.heap[w2.heap.size + 1]? = some (.cells #[.slice av n cv, .slice none 0 0, .map (some w2.heap.size)] 290 (0, 0)) := by
      rw [← hW6, heap_setCell_same w5 (w2.heap.size + 1) 0 _ 290 (.slice av n cv) hT5]; rfl
    have ht6 : Tabl W6 (w2.heap.size + 1) B ids [] w2.heap.size 0 no (.slice av n cv) (.slice none 0 0) := by
      refine ⟨hT6, ?_, World.ownsRow_nil _ _ _ _, hM5.kp k6 (by simp), by omega, by omega⟩
      have h1 := k6.owns hv5 (fun g hg hx => by simp at hx; have := (hv5.lt g hg).1; omega)
      rw [Hidl.out]
      refine ⟨h1.1, ?_⟩
      rcases h1.2 with h | ⟨g, cap, cur, e, hb, rest⟩
      · exact .inl h
      · exact .inr ⟨g, cap, cur, e, by omega, rest⟩
    have hR6 := hr5.kp k6 (by simp; omega) (by simp; omega)
    have hT06 := k6.heap hT05 (by simp; omega)
    have hsz6 := k6.size
    have k06 : Kp [R] w W6 := (k03.next hk35).trans k6 (by simp; omega)
    have HT6 := hide ht6
    have HR6 := hide hR6
    have HT06 := hide hT06
    clear hT5 hM5 hT05 hv5 hr5 hT6 ht6 hR6 hT06 HT3 HM3 HT03 HR4
    go_wp2_with fail
    clear hW6 d0 d1 d2 gz0 gz1 gz2
    refine (Hn5.out W6 HR6.out).mono ?_
    rintro e w7 ⟨rfl, hr7, hk7⟩
    have hb6 := HR6.out.block
    have ht7 : Tabl w7 (w2.heap.size + 1) B ids [] w2.heap.size 0 no (.slice av n cv) (.slice none 0 0) := HT6.out.kp hk7 (HT6.out.map.kp hk7 (by simp; omega)) (by simp; omega) (fun x hx => by simp at hx; subst hx; exact owns_ne HT6.out.ids (Classical.choose_spec (Classical.choose_spec hb6)) (by decide)) (fun x hx => by simp [Value.ownBlock])
    have hT07 := hk7.heap HT06.out (by simp; omega)
    have k07 : Kp [R] w w7 := k06.next hk7
    have hsz7 := hk7.size
    have HR7 := hide hr7
    have HT7 := hide ht7
    have HT07 := hide hT07
    clear hr7 ht7 hT07 HR6 HT6 HT06 hb6
    go_wp2_with fail
    go_loopw [18] (fun kv wr => ∃ (k : Nat) (tv : Value), k ≤ m ∧ kv = .int .i64 k ∧ Rd wr R B (termN ids.length ([], 0, no, s5) k).2.2.2 ∧ Tabl wr (w2.heap.size + 1) B ids (termN ids.length ([], 0, no, s5) k).1 w2.heap.size (termN ids.length ([], 0, no, s5) k).2.1 (termN ids.length ([], 0, no, s5) k).2.2.1 (.slice av n cv) tv ∧ wr.heap[w.heap.size]? = some (.cells #[.slice none 0 0, .slice none 0 0, .map none] 290 (0, 0)) ∧ B ≤ wr.heap.size ∧ Below B w wr) (fun kv _ => m - (intOf kv).toNat)
    case atStart => exact ⟨0, _, by omega, rfl, HR7.out, HT7.out, HT07.out, by omega, k07.below hBw (by simpa using hRB)⟩
    case round =>
      clear HR7 HT7 HT07 k07
      obtain ⟨k, tv, hk, rfl, hr, htb, hT0, hBr, hbel⟩ := hrel
      by_cases hlt : k < m
      · have hlk := Htl.out k
        have hck := Htc.out k
        have hstep : Hid (termN ids.length ([], 0, no, s5) (k + 1) = termF ids.length (termN ids.length ([], 0, no, s5) k)) := rfl
        generalize termN ids.length ([], 0, no, s5) k = x at *
        obtain ⟨ts, c', f', s'⟩ := x
        simp only at hr htb hlk hck
        have hP := term_rd R B (w2.heap.size + 1) w2.heap.size c' ids ts f' (.slice av n cv) tv s' wr hr htb (by rw [Hidl.out]; exact hn60) (by omega) (by omega) hBr
        have HP := hide hP
        have HT0 := hide hT0
        clear hP hr htb hT0
        go_wp2_with fail
        refine HP.out.mono ?_
        rintro e w8 ⟨tv', rfl, hr8, ht8, hk8⟩
        have hT8 := hk8.heap (by simp; omega) HT0.out (by decide)
        have hsz8 := hk8.size
        have HR8 := hide hr8
        have HT8 := hide ht8
        have HT08 := hide hT8
        clear hr8 ht8 hT8
        go_wp2_with fail
        go_roundw
        case rel =>
          refine ⟨k + 1, tv', by omega, by go_num, ?_, ?_, HT08.out, by omega, hbel.trans (hk8.below hBr (by simp; omega) (Nat.le_refl _))⟩
          · rw [hstep.out]; exact HR8.out
          · rw [hstep.out]; exact HT8.out
        case measure => simp [intOf]; omega
      · have ek : k = m := by omega
        subst ek
        obtain ⟨b0, b1, b2, _, _, _⟩ := tb_cells htb.blk
        obtain ⟨e0, e1, e2, fz0, fz1, fz2⟩ := tb_cells hT0
        obtain ⟨at', ct, et, _⟩ := owns_forms htb.terms
        subst et
        have HR := hide hr
        have HTB := hide htb
        have HT0 := hide hT0
        clear hr htb hT0
        go_wp2_with fail
        have ks : Kp [w.heap.size] wr (((wr.setCell ⟨w.heap.size, 0, none⟩ (.slice av n cv)).setCell ⟨w.heap.size, 1, none⟩ (.slice at' (termN ids.length ([], 0, no, s5) k).1.length ct)).setCell ⟨w.heap.size, 2, none⟩ (.map (some w2.heap.size))) := (((Kp.refl _ _).setCell (.inl (by simp)) _).setCell (.inl (by simp)) _).setCell (.inl (by simp)) _
        refine bodyPost_ret (v := .agg #[.slice av n cv, .slice at' (termN ids.length ([], 0, no, s5) k).1.length ct, .map (some w2.heap.size)]) (by simp [results, Tryz.results249, go_sem, e0, e1, e2]) rfl ⟨w2.heap.size + 1, w2.heap.size, _, _, rfl, ?_, ?_, ?_⟩
        · exact HR.out.kp ks (by simp; omega) (by simpa using hBw)
        · refine HTB.out.kp ks (HTB.out.map.kp ks (by simp; omega)) (by simp; omega) (fun x hx => ?_) (fun x hx => ?_)
          · simp at hx; subst hx; exact owns_ne HTB.out.ids HT0.out (by decide)
          · simp at hx; subst hx; exact owns_ne HTB.out.terms HT0.out (by decide)
        · exact hbel.trans (ks.below hBr (by simpa using hBw))
end Go.Proofs.YtbkepgmgebmceaaGreatDoor.Pak
