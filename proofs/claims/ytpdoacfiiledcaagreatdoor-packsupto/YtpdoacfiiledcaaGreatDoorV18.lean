import Derived.Test.YtpdoacfiiledcaaGreatDoorV17
import Derived.Test.YtpdoacfiiledcaaGreatDoorV13
import Derived.Test.YtpdoacfiiledcaaGreatDoorV14
set_option linter.unusedVariables false
set_option maxRecDepth 4000
namespace Go.Proofs.YtpdoacfiiledcaaGreatDoor.Pak
open Go.RowKit Go.Proofs.YtpdoacfiiledcaaGreatDoor Go.Proofs.YtpdoacfiiledcaaGreatDoor.Spl SiftM

set_option maxHeartbeats 300000 in
set_option maxRecDepth 100000 in
theorem rrising_any (base base' : Nat) (v u : Value) (l : List UInt8) (xs : List Nat) (w : World) (h : w.ownsRow base 5 1 v l.length (byV l)) (hu : w.ownsRow base' 3 1 u xs.length (intV xs)) (hb : base ≤ w.heap.size) (hl : l.length + 4 * xs.length ≤ 2000000) (hx : xs.length ≤ 4000) (hr : Rs 0 xs) (hbd : ∀ x ∈ xs, x < 268435456) :
    Calls Tryz.prog 289 #[v, u] w (Out w base (l ++ riseB 0 xs)) := by
  obtain ⟨a0, c0, rfl, _⟩ := owns_forms h
  obtain ⟨au, cu, rfl, hau⟩ := owns_forms hu
  have HO := hide h
  have HU := hide hu
  clear h hu
  go_enter Tryz.func289, Tryz.ntmps289
  go_wp2_with fail
  go_loopw [0, 5] (fun ov iv wr => ∃ (k : Nat) (a : Option Addr) (cap n : Nat), k ≤ xs.length ∧ iv = .int .i64 k ∧ n = (l ++ riseB 0 (xs.take k)).length ∧ ov = .slice a n cap ∧ wr.ownsRow base 5 1 (.slice a n cap) n (byV (l ++ riseB 0 (xs.take k))) ∧ wr.ownsRow base' 3 1 (.slice au xs.length cu) xs.length (intV xs) ∧ base ≤ wr.heap.size ∧ Kb 5 [] base w wr) (fun _ iv _ => xs.length - (intOf iv).toNat)
  case atStart => exact ⟨0, a0, c0, l.length, by omega, rfl, by simp [riseB], rfl, by simpa [riseB] using HO.out, HU.out, hb, Kb.refl _ _ _ _⟩
  case round =>
    clear HO HU
    obtain ⟨k, a, cap, n, hk, rfl, hn, rfl, ho, hu, hbase, hkb⟩ := hrel
    by_cases hlt : k < xs.length
    · obtain ⟨g, rfl⟩ := hau (by omega)
      have hc := ints_cells hu rfl k hlt
      have hsp := hide (rise_split xs 0 k hlt)
      have hat := rs_at xs 0 k hlt hr
      have hbx := hbd xs[k] (List.getElem_mem hlt)
      have hlen := riseB_len (xs.take k) 0
      have htl : (xs.take k).length ≤ xs.length := by rw [List.length_take]; omega
      have hgl := (hu.lt g rfl).2
      obtain ⟨x, hxE⟩ : ∃ x, xs[k] = x := ⟨_, rfl⟩
      rw [hxE] at hc hat hbx hsp
      have hnl : n ≤ 2000000 := by rw [hn, List.length_append]; omega
      have HPUT : ∀ m : Nat, m < 268435456 → Hid (Calls Tryz.prog 288 #[.slice a n cap, .int .i64 (m : Int)] wr (Out wr base ((l ++ riseB 0 (xs.take k)) ++ numB m))) := by
        intro m hm
        have := rput_any base (.slice a n cap) (l ++ riseB 0 (xs.take k)) m wr (by rw [← hn]; exact ho) hbase (by rw [← hn]; exact hnl) hm
        exact this
      have HPUD : ∀ m : Nat, m < 268435456 → Hid (Calls Tryz.prog 288 #[.slice a n cap, .int .i64 (m : Int)] wr.drew (Out wr.drew base ((l ++ riseB 0 (xs.take k)) ++ numB m))) := by
        intro m hm
        have := rput_any base (.slice a n cap) (l ++ riseB 0 (xs.take k)) m wr.drew (by rw [← hn]; exact ho.drew) hbase (by rw [← hn]; exact hnl) hm
        exact this
      have HU := hide hu
      clear ho hu hxE hn hlen htl
      by_cases h0 : k = 0
      · subst h0
        have hp := HPUT x (by omega)
        have he : Hid (l ++ riseB 0 (xs.take (0 + 1)) = (l ++ riseB 0 (xs.take 0)) ++ numB x) := by
          show _ = _
          rw [hsp.out]; simp
        clear HPUT HPUD hsp
        go_wp2_with fail
        refine hp.out.mono ?_
        rintro e w2 ⟨a2, c2, n2, hn2, rfl, ho2, k2⟩
        have hz2 := k2.size
        have hu2 := k2.owns HU.out (by decide) (by simp)
        have Hn2 := hide hn2
        have HO2 := hide ho2
        have HU2 := hide hu2
        have kf := hkb.next k2
        clear ho2 hu2 hp HU k2 hc hn2
        go_wp2_with fail
        go_roundw
        case rel => exact ⟨0 + 1, a2, c2, n2, by omega, by go_num, by rw [he.out]; exact Hn2.out.symm, rfl, by rw [he.out]; exact HO2.out, HU2.out, by omega, kf⟩
        case measure => simp [intOf]; omega
      · have hk1 : k - 1 < xs.length := by omega
        have hc1 := ints_cells HU.out rfl (k - 1) hk1
        have hgd : xs.getD (k - 1) 0 = xs[k - 1] := by rw [List.getD_eq_getElem?_getD, List.getElem?_eq_getElem hk1]; rfl
        rw [if_neg h0, hgd] at hat hsp
        obtain ⟨y, hy⟩ : ∃ y, xs[k - 1] = y := ⟨_, rfl⟩
        rw [hy] at hc1 hat hsp
        have hp := HPUD (x - (y + 1)) (by omega)
        have he : Hid (l ++ riseB 0 (xs.take (k + 1)) = (l ++ riseB 0 (xs.take k)) ++ numB (x - (y + 1))) := by
          show _ = _
          rw [hsp.out]; simp
        obtain ⟨j, hj⟩ : ∃ j, k = j + 1 := ⟨k - 1, by omega⟩
        subst hj
        rw [Nat.add_sub_cancel] at hc1
        have hsub : (x : Int) - (y : Int) - 1 = ((x - (y + 1) : Nat) : Int) := by omega
        obtain ⟨dd, hdd⟩ : ∃ dd, x - (y + 1) = dd := ⟨_, rfl⟩
        rw [hdd] at hp he hsub
        have Hsub := hide hsub
        have hyx : y + 1 ≤ x := hat
        clear HPUT HPUD hsp hgd hy h0 hsub hdd
        go_wp2_with fail
        go_region
        rw [show (x : Int) - (y : Int) - 1 = (dd : Int) from Hsub.out]
        go_wp2_with fail
        refine hp.out.mono ?_
        rintro e w2 ⟨a2, c2, n2, hn2, rfl, ho2, k2⟩
        have hz2 := k2.size
        have hu2 := k2.owns (HU.out.drew) (by decide) (by simp)
        have Hn2 := hide hn2
        have HO2 := hide ho2
        have HU2 := hide hu2
        have kf := (hkb.next (Kb.of_kp (S := []) ((Kp.refl [] wr).drewN 1) (by simp))).next k2
        have hz3 : wr.heap.size ≤ w2.heap.size := hz2
        clear ho2 hu2 hp HU k2 hc hc1 hn2
        go_wp2_with fail
        go_roundw
        case rel => exact ⟨j + 1 + 1, a2, c2, n2, by omega, by go_num, by rw [he.out]; exact Hn2.out.symm, rfl, by rw [he.out]; exact HO2.out, HU2.out, by omega, kf⟩
        case measure => simp [intOf]; omega
    · have ek : k = xs.length := by omega
      subst ek
      rw [List.take_length] at ho hn
      have HO := hide ho
      have Hn := hide hn
      clear ho hn hu
      go_wp2_with fail
      go_ret
      exact ⟨a, cap, n, Hn.out.symm, rfl, HO.out, hkb⟩

set_option maxHeartbeats 300000 in
theorem rsum_any (a : Option Addr) (cap n : Nat) (l : List UInt8) (w : World) (hv : Vw w w.heap.size a l) (hn : l.length = n) (hl : n ≤ 4000000) :
    Calls Tryz.prog 93 #[.slice a n cap] w fun e w' => e = .returned (.slice (some ⟨w.heap.size, 0, none⟩) 4 4) ∧ w'.ownsRow w.heap.size 5 1 (.slice (some ⟨w.heap.size, 0, none⟩) 4 4) 4 (byV (sumB l)) ∧ Kp [] w w' := by
  have HV := hide hv
  have Hn := hide hn
  clear hv hn
  go_enter Tryz.func93, Tryz.ntmps93
  go_wp2_with fail
  go_loopw [3, 4, 5] (fun av bv iv wr => ∃ k : Nat, k ≤ n ∧ iv = .int .i64 k ∧ av = .int .i64 ((adl (l.take k) (1, 0)).1 : Nat) ∧ bv = .int .i64 ((adl (l.take k) (1, 0)).2 : Nat) ∧ wr = w) (fun _ _ iv _ => n - (intOf iv).toNat)
  case atStart => exact ⟨0, by omega, rfl, rfl, rfl, rfl⟩
  case round =>
    obtain ⟨k, hk, rfl, rfl, rfl, rfl⟩ := hrel
    have hlt2 := adl_lt (l.take k) (1, 0) (by decide) (by decide)
    by_cases hlt : k < n
    · have hkl : k < l.length := by rw [Hn.out]; exact hlt
      obtain ⟨g, off, rfl, hg, hc⟩ : ∃ g off, a = some ⟨g, off, none⟩ ∧ g < wr.heap.size ∧ ∀ j (h : j < l.length), wr.cell? ⟨g, off + j, none⟩ = some (.int .u8 (l[j].toNat : Int)) := by
        rcases HV.out with ⟨h, _⟩ | h
        · subst h; simp at hkl
        · exact h
      have hck := hc k hkl
      have hsn := hide (adl_snoc (l.take k) l[k] (1, 0))
      rw [← take_snocL l k hkl] at hsn
      have c256 : l[k].toNat < 256 := l[k].toNat_lt
      obtain ⟨x, hx⟩ : ∃ x, (adl (l.take k) (1, 0)).1 = x := ⟨_, rfl⟩
      obtain ⟨y, hy⟩ : ∃ y, (adl (l.take k) (1, 0)).2 = y := ⟨_, rfl⟩
      obtain ⟨c, hc'⟩ : ∃ c, l[k].toNat = c := ⟨_, rfl⟩
      rw [hx, hy, hc'] at hsn
      rw [hx, hy] at hlt2 ⊢
      rw [hc'] at hck c256
      obtain ⟨h1, h2⟩ := hlt2
      clear hc hx hy hc'
      go_wp2_with fail
      go_roundw
      case rel =>
        refine ⟨k + 1, by omega, by go_num, ?_, ?_, by trivial⟩
        · rw [hsn.out]; go_num
        · rw [hsn.out]; go_num
      case measure => simp [intOf]; omega
    · have e : n = k := by omega
      subst e
      rw [show l.take n = l by rw [← Hn.out, List.take_length]] at hlt2 ⊢
      have hres : Hid (byV (sumB l) = [.int .u8 (((adl l (1, 0)).2 / 256 : Nat) : Int), .int .u8 (((adl l (1, 0)).2 % 256 : Nat) : Int), .int .u8 (((adl l (1, 0)).1 / 256 : Nat) : Int), .int .u8 (((adl l (1, 0)).1 % 256 : Nat) : Int)]) := sumB_V l
      obtain ⟨x, hx⟩ : ∃ x, (adl l (1, 0)).1 = x := ⟨_, rfl⟩
      obtain ⟨y, hy⟩ : ∃ y, (adl l (1, 0)).2 = y := ⟨_, rfl⟩
      rw [hx, hy] at hlt2 hres ⊢
      obtain ⟨h1, h2⟩ := hlt2
      clear hx hy
      go_wp2_with fail
      go_ret
      refine ⟨rfl, ?_, (Kp.refl _ _).alloc _⟩
      have e : byV (sumB l) = [.int .u8 ((y : Int) / 256), .int .u8 ((y : Int) % 256), .int .u8 ((x : Int) / 256), .int .u8 ((x : Int) % 256)] := by rw [hres.out]; simp
      rw [e]
      exact ⟨rfl, .inr ⟨wr.heap.size, 4, #[.int .u8 ((y : Int) / 256), .int .u8 ((y : Int) % 256), .int .u8 ((x : Int) / 256), .int .u8 ((x : Int) % 256)], rfl, Nat.le_refl _, heap_alloc_new wr _, Nat.le_refl _, by unfold maxLen; omega, rfl, rfl⟩⟩

set_option maxHeartbeats 300000 in
theorem rsealed_any (base : Nat) (a : Option Addr) (cap n : Nat) (l : List UInt8) (w : World) (h : w.ownsRow base 5 1 (.slice a n cap) n (byV l)) (hn : l.length = n) (hb : base ≤ w.heap.size) (hl : n ≤ 2000000) :
    Calls Tryz.prog 291 #[.slice a n cap] w (Out w base (l ++ sumB l)) := by
  obtain ⟨i0, hi, hz0, hz1, hz2⟩ := info_parts info5
  have hs := rsum_any a cap n l w (vw_of_owns h hn) hn (by omega)
  have HO := hide h
  have HS := hide hs
  have Hn := hide hn
  clear h hs hn
  go_enter Tryz.func291, Tryz.ntmps291
  go_wp2_with fail
  refine HS.out.mono ?_
  rintro e w1 ⟨rfl, hs1, k1⟩
  have ho1 := k1.owns HO.out (by simp)
  have hz1' := k1.size
  have HS1 := hide hs1
  have HO1 := hide ho1
  clear hs1 ho1 HS HO
  go_wp2_with (first
    | (at_builtin; refine wpList_append_own_at _ rfl _ _ 112 rfl base 5 i0 (.int .u8 0) 1 1 Tryz.underlying112 hi hz0 hz1 hz2 rfl (by decide) _ _ _ rfl HO1.out ⟨w.heap.size, 0, none⟩ 4 4 (byV (sumB l)) rfl (by rw [byV_length]; rfl) (HS1.out.cells (g := w.heap.size) rfl) ?c0 ?c1 ?c2 ?c3 ?_)
    | fail)
  case c0 => intro u hu; unfold byV at hu; obtain ⟨c, _, rfl⟩ := List.mem_map.1 hu; rfl
  case c1 => unfold maxLen; omega
  case c2 => omega
  case c3 => omega
  intro v2 w2 ho2 hgrow _ _
  obtain ⟨a2, c2, rfl, _⟩ := owns_forms ho2
  have kf : Kb 5 [] base w w2 := (Kb.of_kp (S := []) k1 (by simp)).grown HO1.out hgrow
  have HO2 := hide ho2
  clear ho2 hgrow HO1 HS1
  go_wp2_with fail
  go_ret
  refine ⟨a2, c2, n + 4, ?_, rfl, ?_, kf⟩
  · rw [List.length_append, Hn.out]; rfl
  · rw [byV_append]; exact HO2.out

/-- The places of a word among words, of the first k. -/
def plW (ws : List (List UInt8)) (t : List UInt8) : Nat → List Nat
  | 0 => []
  | k + 1 => plW ws t k ++ (if ws.getD k [] = t then [k] else [])
theorem plW_len (ws : List (List UInt8)) (t : List UInt8) : ∀ k, (plW ws t k).length ≤ k
  | 0 => by simp [plW]
  | k + 1 => by
    have := plW_len ws t k
    simp only [plW, List.length_append]
    split <;> simp <;> omega

set_option maxHeartbeats 300000 in
theorem rplaces_any (B : Nat) (u : Value) (ws : List (List UInt8)) (t : List UInt8) (w : World) (hu : w.ownsRow B 9 1 u ws.length (strV ws)) (hl : ws.length ≤ 100000) :
    Calls Tryz.prog 362 #[u, .string ⟨t.toArray⟩] w fun e w' => ∃ (a' : Option Addr) (c' n' : Nat), (plW ws t ws.length).length = n' ∧ e = .returned (.slice a' n' c') ∧ w'.ownsRow w.heap.size 3 1 (.slice a' n' c') n' (intV (plW ws t ws.length)) ∧ Kp [] w w' := by
  obtain ⟨i0, hi, hz0, hz1, hz2⟩ := info_parts info3
  obtain ⟨au, cu, rfl, hau⟩ := owns_forms hu
  obtain ⟨n, hn⟩ : ∃ n, ws.length = n := ⟨_, rfl⟩
  rw [hn] at hu hl hau
  rw [hn]
  have HU := hide hu
  have Hn := hide hn
  clear hu hn
  go_enter Tryz.func362, Tryz.ntmps362
  go_wp2_with fail
  go_loopw [5, 6] (fun lv iv wr => ∃ (k : Nat) (a : Option Addr) (c m : Nat), k ≤ n ∧ iv = .int .i64 k ∧ lv = .slice a m c ∧ (plW ws t k).length = m ∧ wr.ownsRow w.heap.size 3 1 (.slice a m c) m (intV (plW ws t k)) ∧ Kp [] w wr) (fun _ iv _ => n - (intOf iv).toNat)
  case atStart => exact ⟨0, none, 0, 0, by omega, rfl, rfl, rfl, World.ownsRow_nil _ _ _ _, Kp.refl _ _⟩
  case round =>
    obtain ⟨k, a, c, m, hk, rfl, rfl, hm, ho, hkp⟩ := hrel
    by_cases hlt : k < n
    · obtain ⟨g, rfl⟩ := hau (by omega)
      have hkw : k < ws.length := by rw [Hn.out]; exact hlt
      have hur := hkp.owns HU.out (by simp)
      have hc := strs_cells hur Hn.out k hkw
      have hgl := (hur.lt g rfl).2
      have hml : m ≤ k := by rw [← hm]; exact plW_len ws t k
      have hst : Hid (plW ws t (k + 1) = plW ws t k ++ (if ws[k] = t then [k] else [])) := by
        show _ = _
        rw [plW, List.getD_eq_getElem?_getD, List.getElem?_eq_getElem hkw]; rfl
      obtain ⟨x, hx⟩ : ∃ x, ws[k] = x := ⟨_, rfl⟩
      rw [hx] at hc hst
      have HO := hide ho
      have Hm := hide hm
      clear ho hm hur hx
      by_cases hxt : x = t
      · subst hxt
        rw [if_pos rfl] at hst
        go_wp2_with (first
          | (at_builtin; refine wpList_append_own_at _ rfl _ _ 24 rfl w.heap.size 3 i0 (.int .i64 0) 1 8 Tryz.underlying24 hi hz0 hz1 hz2 rfl (by decide) _ _ _ rfl (HO.out.alloc _) ⟨wr.heap.size, 0, none⟩ 1 1 [.int .i64 k] rfl rfl (one_new _ _ _) (one_cell _ _) ?c1 ?c2 ?c3 ?_)
          | fail)
        case c1 => unfold maxLen; omega
        case c2 => omega
        case c3 => have := hkp.size; simp; omega
        intro v2 w2 ho2 hgrow _ _
        obtain ⟨a2, c2, rfl, _⟩ := owns_forms ho2
        have k2 : Kp (Value.slice a m c).ownBlock.toList wr w2 := ((Kp.refl _ _).alloc _).grown hgrow (fun j hj => .inl (by simp [hj]))
        have kf : Kp [] w w2 := hkp.trans k2 (fun y hy => .inr (HO.out.lt y (by simpa using hy)).1)
        have HO2 := hide ho2
        clear ho2 hgrow k2 HO
        go_wp2_with fail
        go_roundw
        case rel =>
          refine ⟨k + 1, a2, c2, m + 1, by omega, by go_num, rfl, ?_, ?_, kf⟩
          · rw [hst.out, List.length_append, Hm.out]; rfl
          · rw [hst.out]
            have e : intV (plW ws x k ++ [k]) = intV (plW ws x k) ++ [.int .i64 (k : Int)] := by simp [intV]
            rw [e]; exact HO2.out
        case measure => simp [intOf]; omega
      · rw [if_neg hxt] at hst
        have hne : (x == t) = false := by simpa using hxt
        rw [List.append_nil] at hst
        go_wp2_with fail
        go_roundw
        case rel =>
          refine ⟨k + 1, a, c, m, by omega, by go_num, rfl, ?_, ?_, hkp⟩
          · rw [hst.out]; exact Hm.out
          · rw [hst.out]; exact HO.out
        case measure => simp [intOf]; omega
    · have ek : n = k := by omega
      subst ek
      have HO := hide ho
      have Hm := hide hm
      clear ho hm
      go_wp2_with fail
      go_ret
      exact ⟨a, c, m, Hm.out, rfl, HO.out, hkp⟩
end Go.Proofs.YtpdoacfiiledcaaGreatDoor.Pak
