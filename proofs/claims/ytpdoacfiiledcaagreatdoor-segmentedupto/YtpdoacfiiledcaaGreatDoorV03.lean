import Derived.Test.YtpdoacfiiledcaaGreatDoorV02
import Derived.Shelf.SlGeneric
import Derived.Shelf.Small.Bits
import Derived.Shelf.Small.Wraps
import Derived.Shelf.Sort.Plain
import Derived.Shelf.Slices.CompactS
import Derived.Shelf.Slices.In.SortNone
import Derived.Shelf.SlSortCmp.WholeK
import Derived.Shelf.SlSortCmp.NoneTotal
import Derived.Shelf.Spec.SearchS
import Derived.Ground.NamesProg
import Derived.Ground.Names2Prog
import Derived.Ground.SlsfProg
import Derived.Test.YtpdoacfiiledcaaGreatDoorProg
set_option linter.unusedVariables false
set_option maxRecDepth 4000
namespace Go.Proofs.YtpdoacfiiledcaaGreatDoor.Pak
open Go.RowKit Go.Proofs.YtpdoacfiiledcaaGreatDoor Go.Proofs.YtpdoacfiiledcaaGreatDoor.Spl SiftM

set_option maxHeartbeats 300000 in
set_option maxRecDepth 100000 in
theorem rrising_any (base base' : Nat) (v u : Value) (l : List UInt8) (xs : List Nat) (w : World) (h : w.ownsRow base 5 1 v l.length (byV l)) (hu : w.ownsRow base' 3 1 u xs.length (intV xs)) (hb : base ≤ w.heap.size) (hl : l.length + 4 * xs.length ≤ 2000000) (hx : xs.length ≤ 4000) (hr : Rs 0 xs) (hbd : ∀ x ∈ xs, x < 268435456) :
    Calls Tryz.prog 289 #[v, u] w (Out w base (l ++ riseB 0 xs)) := by
  obtain ⟨a0, c0, rfl, _⟩ := owns_forms h
  obtain ⟨au, cu, rfl, hau⟩ := owns_forms hu
  have HO := hide h
  have HU := hide hu
  clear h hu
  go_enter Tryz.func289, Tryz.ntmps289
  go_wp2_with fail
  go_loopw [0, 5] (fun ov iv wr => ∃ (k : Nat) (a : Option Addr) (cap n : Nat), k ≤ xs.length ∧ iv = .int .i64 k ∧ n = (l ++ riseB 0 (xs.take k)).length ∧ ov = .slice a n cap ∧ wr.ownsRow base 5 1 (.slice a n cap) n (byV (l ++ riseB 0 (xs.take k))) ∧ wr.ownsRow base' 3 1 (.slice au xs.length cu) xs.length (intV xs) ∧ base ≤ wr.heap.size ∧ Kb 5 [] base w wr) (fun _ iv _ => xs.length - (intOf iv).toNat)
  case atStart => exact ⟨0, a0, c0, l.length, by omega, rfl, by simp [riseB], rfl, by simpa [riseB] using HO.out, HU.out, hb, Kb.refl _ _ _ _⟩
  case round =>
    clear HO HU
    obtain ⟨k, a, cap, n, hk, rfl, hn, rfl, ho, hu, hbase, hkb⟩ := hrel
    by_cases hlt : k < xs.length
    · obtain ⟨g, rfl⟩ := hau (by omega)
      have hc := ints_cells hu rfl k hlt
      have hsp := hide (rise_split xs 0 k hlt)
      have hat := rs_at xs 0 k hlt hr
      have hbx := hbd xs[k] (List.getElem_mem hlt)
      have hlen := riseB_len (xs.take k) 0
      have htl : (xs.take k).length ≤ xs.length := by rw [List.length_take]; omega
      have hgl := (hu.lt g rfl).2
      obtain ⟨x, hxE⟩ : ∃ x, xs[k] = x := ⟨_, rfl⟩
      rw [hxE] at hc hat hbx hsp
      have hnl : n ≤ 2000000 := by rw [hn, List.length_append]; omega
      have HPUT : ∀ m : Nat, m < 268435456 → Hid (Calls Tryz.prog 288 #[.slice a n cap, .int .i64 (m : Int)] wr (Out wr base ((l ++ riseB 0 (xs.take k)) ++ numB m))) := by
        intro m hm
        have := rput_any base (.slice a n cap) (l ++ riseB 0 (xs.take k)) m wr (by rw [← hn]; exact ho) hbase (by rw [← hn]; exact hnl) hm
        exact this
      have HPUD : ∀ m : Nat, m < 268435456 → Hid (Calls Tryz.prog 288 #[.slice a n cap, .int .i64 (m : Int)] wr.drew (Out wr.drew base ((l ++ riseB 0 (xs.take k)) ++ numB m))) := by
        intro m hm
        have := rput_any base (.slice a n cap) (l ++ riseB 0 (xs.take k)) m wr.drew (by rw [← hn]; exact ho.drew) hbase (by rw [← hn]; exact hnl) hm
        exact this
      have HU := hide hu
      clear ho hu hxE hn hlen htl
      by_cases h0 : k = 0
      · subst h0
        have hp := HPUT x (by omega)
        have he : Hid (l ++ riseB 0 (xs.take (0 + 1)) = (l ++ riseB 0 (xs.take 0)) ++ numB x) := by
          show _ = _
          rw [hsp.out]; simp
        clear HPUT HPUD hsp
        go_wp2_with fail
        refine hp.out.mono ?_
        rintro e w2 ⟨a2, c2, n2, hn2, rfl, ho2, k2⟩
        have hz2 := k2.size
        have hu2 := k2.owns HU.out (by decide) (by simp)
        have Hn2 := hide hn2
        have HO2 := hide ho2
        have HU2 := hide hu2
        have kf := hkb.next k2
        clear ho2 hu2 hp HU k2 hc hn2
        go_wp2_with fail
        go_roundw
        case rel => exact ⟨0 + 1, a2, c2, n2, by omega, by go_num, by rw [he.out]; exact Hn2.out.symm, rfl, by rw [he.out]; exact HO2.out, HU2.out, by omega, kf⟩
        case measure => simp [intOf]; omega
      · have hk1 : k - 1 < xs.length := by omega
        have hc1 := ints_cells HU.out rfl (k - 1) hk1
        have hgd : xs.getD (k - 1) 0 = xs[k - 1] := by rw [List.getD_eq_getElem?_getD, List.getElem?_eq_getElem hk1]; rfl
        rw [if_neg h0, hgd] at hat hsp
        obtain ⟨y, hy⟩ : ∃ y, xs[k - 1] = y := ⟨_, rfl⟩
        rw [hy] at hc1 hat hsp
        have hp := HPUD (x - (y + 1)) (by omega)
        have he : Hid (l ++ riseB 0 (xs.take (k + 1)) = (l ++ riseB 0 (xs.take k)) ++ numB (x - (y + 1))) := by
          show _ = _
          rw [hsp.out]; simp
        obtain ⟨j, hj⟩ : ∃ j, k = j + 1 := ⟨k - 1, by omega⟩
        subst hj
        rw [Nat.add_sub_cancel] at hc1
        have hsub : (x : Int) - (y : Int) - 1 = ((x - (y + 1) : Nat) : Int) := by omega
        obtain ⟨dd, hdd⟩ : ∃ dd, x - (y + 1) = dd := ⟨_, rfl⟩
        rw [hdd] at hp he hsub
        have Hsub := hide hsub
        have hyx : y + 1 ≤ x := hat
        clear HPUT HPUD hsp hgd hy h0 hsub hdd
        go_wp2_with fail
        go_region
        rw [show (x : Int) - (y : Int) - 1 = (dd : Int) from Hsub.out]
        go_wp2_with fail
        refine hp.out.mono ?_
        rintro e w2 ⟨a2, c2, n2, hn2, rfl, ho2, k2⟩
        have hz2 := k2.size
        have hu2 := k2.owns (HU.out.drew) (by decide) (by simp)
        have Hn2 := hide hn2
        have HO2 := hide ho2
        have HU2 := hide hu2
        have kf := (hkb.next (Kb.of_kp (S := []) ((Kp.refl [] wr).drewN 1) (by simp))).next k2
        have hz3 : wr.heap.size ≤ w2.heap.size := hz2
        clear ho2 hu2 hp HU k2 hc hc1 hn2
        go_wp2_with fail
        go_roundw
        case rel => exact ⟨j + 1 + 1, a2, c2, n2, by omega, by go_num, by rw [he.out]; exact Hn2.out.symm, rfl, by rw [he.out]; exact HO2.out, HU2.out, by omega, kf⟩
        case measure => simp [intOf]; omega
    · have ek : k = xs.length := by omega
      subst ek
      rw [List.take_length] at ho hn
      have HO := hide ho
      have Hn := hide hn
      clear ho hn hu
      go_wp2_with fail
      go_ret
      exact ⟨a, cap, n, Hn.out.symm, rfl, HO.out, hkb⟩

set_option maxHeartbeats 300000 in
theorem rsum_any (a : Option Addr) (cap n : Nat) (l : List UInt8) (w : World) (hv : Vw w w.heap.size a l) (hn : l.length = n) (hl : n ≤ 4000000) :
    Calls Tryz.prog 93 #[.slice a n cap] w fun e w' => e = .returned (.slice (some ⟨w.heap.size, 0, none⟩) 4 4) ∧ w'.ownsRow w.heap.size 5 1 (.slice (some ⟨w.heap.size, 0, none⟩) 4 4) 4 (byV (sumB l)) ∧ Kp [] w w' := by
  have HV := hide hv
  have Hn := hide hn
  clear hv hn
  go_enter Tryz.func93, Tryz.ntmps93
  go_wp2_with fail
  go_loopw [3, 4, 5] (fun av bv iv wr => ∃ k : Nat, k ≤ n ∧ iv = .int .i64 k ∧ av = .int .i64 ((adl (l.take k) (1, 0)).1 : Nat) ∧ bv = .int .i64 ((adl (l.take k) (1, 0)).2 : Nat) ∧ wr = w) (fun _ _ iv _ => n - (intOf iv).toNat)
  case atStart => exact ⟨0, by omega, rfl, rfl, rfl, rfl⟩
  case round =>
    obtain ⟨k, hk, rfl, rfl, rfl, rfl⟩ := hrel
    have hlt2 := adl_lt (l.take k) (1, 0) (by decide) (by decide)
    by_cases hlt : k < n
    · have hkl : k < l.length := by rw [Hn.out]; exact hlt
      obtain ⟨g, off, rfl, hg, hc⟩ : ∃ g off, a = some ⟨g, off, none⟩ ∧ g < wr.heap.size ∧ ∀ j (h : j < l.length), wr.cell? ⟨g, off + j, none⟩ = some (.int .u8 (l[j].toNat : Int)) := by
        rcases HV.out with ⟨h, _⟩ | h
        · subst h; simp at hkl
        · exact h
      have hck := hc k hkl
      have hsn := hide (adl_snoc (l.take k) l[k] (1, 0))
      rw [← take_snocL l k hkl] at hsn
      have c256 : l[k].toNat < 256 := l[k].toNat_lt
      obtain ⟨x, hx⟩ : ∃ x, (adl (l.take k) (1, 0)).1 = x := ⟨_, rfl⟩
      obtain ⟨y, hy⟩ : ∃ y, (adl (l.take k) (1, 0)).2 = y := ⟨_, rfl⟩
      obtain ⟨c, hc'⟩ : ∃ c, l[k].toNat = c := ⟨_, rfl⟩
      rw [hx, hy, hc'] at hsn
      rw [hx, hy] at hlt2 ⊢
      rw [hc'] at hck c256
      obtain ⟨h1, h2⟩ := hlt2
      clear hc hx hy hc'
      go_wp2_with fail
      go_roundw
      case rel =>
        refine ⟨k + 1, by omega, by go_num, ?_, ?_, by trivial⟩
        · rw [hsn.out]; go_num
        · rw [hsn.out]; go_num
      case measure => simp [intOf]; omega
    · have e : n = k := by omega
      subst e
      rw [show l.take n = l by rw [← Hn.out, List.take_length]] at hlt2 ⊢
      have hres : Hid (byV (sumB l) = [.int .u8 (((adl l (1, 0)).2 / 256 : Nat) : Int), .int .u8 (((adl l (1, 0)).2 % 256 : Nat) : Int), .int .u8 (((adl l (1, 0)).1 / 256 : Nat) : Int), .int .u8 (((adl l (1, 0)).1 % 256 : Nat) : Int)]) := sumB_V l
      obtain ⟨x, hx⟩ : ∃ x, (adl l (1, 0)).1 = x := ⟨_, rfl⟩
      obtain ⟨y, hy⟩ : ∃ y, (adl l (1, 0)).2 = y := ⟨_, rfl⟩
      rw [hx, hy] at hlt2 hres ⊢
      obtain ⟨h1, h2⟩ := hlt2
      clear hx hy
      go_wp2_with fail
      go_ret
      refine ⟨rfl, ?_, (Kp.refl _ _).alloc _⟩
      have e : byV (sumB l) = [.int .u8 ((y : Int) / 256), .int .u8 ((y : Int) % 256), .int .u8 ((x : Int) / 256), .int .u8 ((x : Int) % 256)] := by rw [hres.out]; simp
      rw [e]
      exact ⟨rfl, .inr ⟨wr.heap.size, 4, #[.int .u8 ((y : Int) / 256), .int .u8 ((y : Int) % 256), .int .u8 ((x : Int) / 256), .int .u8 ((x : Int) % 256)], rfl, Nat.le_refl _, heap_alloc_new wr _, Nat.le_refl _, by unfold maxLen; omega, rfl, rfl⟩⟩

set_option maxHeartbeats 300000 in
theorem rsealed_any (base : Nat) (a : Option Addr) (cap n : Nat) (l : List UInt8) (w : World) (h : w.ownsRow base 5 1 (.slice a n cap) n (byV l)) (hn : l.length = n) (hb : base ≤ w.heap.size) (hl : n ≤ 2000000) :
    Calls Tryz.prog 291 #[.slice a n cap] w (Out w base (l ++ sumB l)) := by
  obtain ⟨i0, hi, hz0, hz1, hz2⟩ := info_parts info5
  have hs := rsum_any a cap n l w (vw_of_owns h hn) hn (by omega)
  have HO := hide h
  have HS := hide hs
  have Hn := hide hn
  clear h hs hn
  go_enter Tryz.func291, Tryz.ntmps291
  go_wp2_with fail
  refine HS.out.mono ?_
  rintro e w1 ⟨rfl, hs1, k1⟩
  have ho1 := k1.owns HO.out (by simp)
  have hz1' := k1.size
  have HS1 := hide hs1
  have HO1 := hide ho1
  clear hs1 ho1 HS HO
  go_wp2_with (first
    | (at_builtin; refine wpList_append_own_at _ rfl _ _ 112 rfl base 5 i0 (.int .u8 0) 1 1 Tryz.underlying112 hi hz0 hz1 hz2 rfl (by decide) _ _ _ rfl HO1.out ⟨w.heap.size, 0, none⟩ 4 4 (byV (sumB l)) rfl (by rw [byV_length]; rfl) (HS1.out.cells (g := w.heap.size) rfl) ?c0 ?c1 ?c2 ?c3 ?_)
    | fail)
  case c0 => intro u hu; unfold byV at hu; obtain ⟨c, _, rfl⟩ := List.mem_map.1 hu; rfl
  case c1 => unfold maxLen; omega
  case c2 => omega
  case c3 => omega
  intro v2 w2 ho2 hgrow _ _
  obtain ⟨a2, c2, rfl, _⟩ := owns_forms ho2
  have kf : Kb 5 [] base w w2 := (Kb.of_kp (S := []) k1 (by simp)).grown HO1.out hgrow
  have HO2 := hide ho2
  clear ho2 hgrow HO1 HS1
  go_wp2_with fail
  go_ret
  refine ⟨a2, c2, n + 4, ?_, rfl, ?_, kf⟩
  · rw [List.length_append, Hn.out]; rfl
  · rw [byV_append]; exact HO2.out

/-- The places of a word among words, of the first k. -/
def plW (ws : List (List UInt8)) (t : List UInt8) : Nat → List Nat
  | 0 => []
  | k + 1 => plW ws t k ++ (if ws.getD k [] = t then [k] else [])
theorem plW_len (ws : List (List UInt8)) (t : List UInt8) : ∀ k, (plW ws t k).length ≤ k
  | 0 => by simp [plW]
  | k + 1 => by
    have := plW_len ws t k
    simp only [plW, List.length_append]
    split <;> simp <;> omega

set_option maxHeartbeats 300000 in
theorem rplaces_any (B : Nat) (u : Value) (ws : List (List UInt8)) (t : List UInt8) (w : World) (hu : w.ownsRow B 9 1 u ws.length (strV ws)) (hl : ws.length ≤ 100000) :
    Calls Tryz.prog 362 #[u, .string ⟨t.toArray⟩] w fun e w' => ∃ (a' : Option Addr) (c' n' : Nat), (plW ws t ws.length).length = n' ∧ e = .returned (.slice a' n' c') ∧ w'.ownsRow w.heap.size 3 1 (.slice a' n' c') n' (intV (plW ws t ws.length)) ∧ Kp [] w w' := by
  obtain ⟨i0, hi, hz0, hz1, hz2⟩ := info_parts info3
  obtain ⟨au, cu, rfl, hau⟩ := owns_forms hu
  obtain ⟨n, hn⟩ : ∃ n, ws.length = n := ⟨_, rfl⟩
  rw [hn] at hu hl hau
  rw [hn]
  have HU := hide hu
  have Hn := hide hn
  clear hu hn
  go_enter Tryz.func362, Tryz.ntmps362
  go_wp2_with fail
  go_loopw [5, 6] (fun lv iv wr => ∃ (k : Nat) (a : Option Addr) (c m : Nat), k ≤ n ∧ iv = .int .i64 k ∧ lv = .slice a m c ∧ (plW ws t k).length = m ∧ wr.ownsRow w.heap.size 3 1 (.slice a m c) m (intV (plW ws t k)) ∧ Kp [] w wr) (fun _ iv _ => n - (intOf iv).toNat)
  case atStart => exact ⟨0, none, 0, 0, by omega, rfl, rfl, rfl, World.ownsRow_nil _ _ _ _, Kp.refl _ _⟩
  case round =>
    obtain ⟨k, a, c, m, hk, rfl, rfl, hm, ho, hkp⟩ := hrel
    by_cases hlt : k < n
    · obtain ⟨g, rfl⟩ := hau (by omega)
      have hkw : k < ws.length := by rw [Hn.out]; exact hlt
      have hur := hkp.owns HU.out (by simp)
      have hc := strs_cells hur Hn.out k hkw
      have hgl := (hur.lt g rfl).2
      have hml : m ≤ k := by rw [← hm]; exact plW_len ws t k
      have hst : Hid (plW ws t (k + 1) = plW ws t k ++ (if ws[k] = t then [k] else [])) := by
        show _ = _
        rw [plW, List.getD_eq_getElem?_getD, List.getElem?_eq_getElem hkw]; rfl
      obtain ⟨x, hx⟩ : ∃ x, ws[k] = x := ⟨_, rfl⟩
      rw [hx] at hc hst
      have HO := hide ho
      have Hm := hide hm
      clear ho hm hur hx
      by_cases hxt : x = t
      · subst hxt
        rw [if_pos rfl] at hst
        go_wp2_with (first
          | (at_builtin; refine wpList_append_own_at _ rfl _ _ 24 rfl w.heap.size 3 i0 (.int .i64 0) 1 8 Tryz.underlying24 hi hz0 hz1 hz2 rfl (by decide) _ _ _ rfl (HO.out.alloc _) ⟨wr.heap.size, 0, none⟩ 1 1 [.int .i64 k] rfl rfl (one_new _ _ _) (one_cell _ _) ?c1 ?c2 ?c3 ?_)
          | fail)
        case c1 => unfold maxLen; omega
        case c2 => omega
        case c3 => have := hkp.size; simp; omega
        intro v2 w2 ho2 hgrow _ _
        obtain ⟨a2, c2, rfl, _⟩ := owns_forms ho2
        have k2 : Kp (Value.slice a m c).ownBlock.toList wr w2 := ((Kp.refl _ _).alloc _).grown hgrow (fun j hj => .inl (by simp [hj]))
        have kf : Kp [] w w2 := hkp.trans k2 (fun y hy => .inr (HO.out.lt y (by simpa using hy)).1)
        have HO2 := hide ho2
        clear ho2 hgrow k2 HO
        go_wp2_with fail
        go_roundw
        case rel =>
          refine ⟨k + 1, a2, c2, m + 1, by omega, by go_num, rfl, ?_, ?_, kf⟩
          · rw [hst.out, List.length_append, Hm.out]; rfl
          · rw [hst.out]
            have e : intV (plW ws x k ++ [k]) = intV (plW ws x k) ++ [.int .i64 (k : Int)] := by simp [intV]
            rw [e]; exact HO2.out
        case measure => simp [intOf]; omega
      · rw [if_neg hxt] at hst
        have hne : (x == t) = false := by simpa using hxt
        rw [List.append_nil] at hst
        go_wp2_with fail
        go_roundw
        case rel =>
          refine ⟨k + 1, a, c, m, by omega, by go_num, rfl, ?_, ?_, hkp⟩
          · rw [hst.out]; exact Hm.out
          · rw [hst.out]; exact HO.out
        case measure => simp [intOf]; omega
    · have ek : n = k := by omega
      subst ek
      have HO := hide ho
      have Hm := hide hm
      clear ho hm
      go_wp2_with fail
      go_ret
      exact ⟨a, c, m, Hm.out, rfl, HO.out, hkp⟩
end Go.Proofs.YtpdoacfiiledcaaGreatDoor.Pak

namespace Go.Proofs.YtpdoacfiiledcaaGreatDoor.Pak
open Go.RowKit Go.Proofs.YtpdoacfiiledcaaGreatDoor Go.Proofs.YtpdoacfiiledcaaGreatDoor.Spl SiftM
set_option linter.unusedVariables false

theorem strV_one (l : List (List UInt8)) (x : List UInt8) : strV (l ++ [x]) = strV l ++ [Value.string ⟨x.toArray⟩] := by simp [strV]
/-- The table behind an append to its terms. -/
theorem Tabl.grown {w w4 : World} {T B M c : Nat} {ids : List Nat} {terms : List (List UInt8)} {f : Nat → Nat → Option Nat} {iv tv v' : Value} {tm : List UInt8} (h : Tabl w T B ids terms M c f iv tv) (o : Obj)
    (hown : w4.ownsRow B 9 1 v' (terms.length + 1) (strV terms ++ [Value.string ⟨tm.toArray⟩])) (hg : (w.alloc o).grownBy w4 tv.ownBlock) :
    Tabl (w4.setCell ⟨T, 1, none⟩ v') T B ids (terms ++ [tm]) M c f iv v' ∧ w4.heap[T]? = some (.cells #[iv, tv, .map (some M)] 316 (0, 0)) := by
  have hTt := owns_ne h.terms h.blk (by decide)
  have k4 : Kp tv.ownBlock.toList w w4 := ((Kp.refl _ _).alloc o).grown hg (fun k hk => .inl (by simp [hk]))
  have hT4 : w4.heap[T]? = some (.cells #[iv, tv, .map (some M)] 316 (0, 0)) := k4.heap h.blk (fun hx => hTt (by simpa using hx))
  have ks : Kp [T] w4 (w4.setCell ⟨T, 1, none⟩ v') := (Kp.refl _ _).setCell (.inl (by simp)) _
  have hidt : ∀ g, iv.ownBlock = some g → g ∉ tv.ownBlock.toList := by
    intro g hg' hx
    have hx' : tv.ownBlock = some g := by simpa using hx
    rcases h.ids.2 with ⟨rfl, _⟩ | ⟨g', cap, cur, rfl, hb, hgg, rest⟩
    · simp [Value.ownBlock] at hg'
    · simp [Value.ownBlock] at hg'
      subst hg'
      exact owns_ne h.terms hgg (by decide) hx'
  have hi4 := k4.owns h.ids hidt
  have hm4 := h.map.kp k4 (fun hx => owns_ne_map h.terms h.map (by simpa using hx))
  refine ⟨⟨?_, ks.owns hi4 (fun g hg' hx => ?_), ?_, hm4.kp ks (by simpa using map_ne h.map h.blk), h.leT, h.leM⟩, hT4⟩
  · have e := heap_setCell_same w4 T 1 _ 316 v' hT4
    rw [e]; rfl
  · simp at hx; subst hx
    exact owns_ne hi4 hT4 (by decide) hg'
  · rw [strV_one, List.length_append]
    refine ks.owns hown (fun g hg' hx => ?_)
    simp at hx; subst hx
    exact owns_ne hown hT4 (by decide) hg'

end Go.Proofs.YtpdoacfiiledcaaGreatDoor.Pak

namespace Go.Proofs.YtpdoacfiiledcaaGreatDoor.Pak
open Go.RowKit Go.Proofs.YtpdoacfiiledcaaGreatDoor Go.Proofs.YtpdoacfiiledcaaGreatDoor.Spl SiftM
set_option linter.unusedVariables false

def no : Nat → Nat → Option Nat := fun _ _ => none
end Go.Proofs.YtpdoacfiiledcaaGreatDoor.Pak

namespace Go.Proofs
open Go.Shelf
def Tryz.lays122_ren : Go.Shelf.Ren := ⟨fun | 122 => 259 | 215 => 318 | n => n, fun | 3 => 3 | 4 => 4 | n => n, fun | n => n⟩
theorem Tryz.lays122 : Go.Proofs.Lays.n122 Tryz.prog Tryz.lays122_ren := {
  mixed := by kernel_rfl
  f122 := Tryz.func259.trans (congrArg some (by kernel_rfl))
  f215 := Tryz.func318.trans (congrArg some (by kernel_rfl))
  t3 := Tryz.underlying3
  a3 := Tryz.isAgg3
  z3 := Tryz.sizeOf3
  v3 := Tryz.zeroValue3
  t4 := Tryz.underlying4
  a4 := Tryz.isAgg4
  z4 := Tryz.sizeOf4
  v4 := Tryz.zeroValue4 }
open Go.RowKit in
theorem Tryz.cmp_Compare_int (x y : Int) (w : World) :
    Calls Tryz.prog 259 #[.int .i64 x, .int .i64 y] w fun e w' => e = .returned (.int .i64 (Lib.compareInt x y)) ∧ w' = w := Any.cmp_Compare_int Tryz.lays122 x y w
def Tryz.lays190_ren : Go.Shelf.Ren := ⟨fun | 190 => 313 | 125 => 246 | 258 => 373 | 128 => 339 | 129 => 340 | 302 => 421 | 303 => 422 | 304 => 423 | 305 => 424 | 306 => 425 | 307 => 426 | 308 => 354 | 309 => 427 | 310 => 428 | 333 => 449 | 329 => 389 | 330 => 390 | 334 => 450 | 335 => 451 | 336 => 404 | 344 => 463 | n => n, fun | 31 => 67 | 9 => 9 | 3 => 3 | 46 => 332 | 0 => 0 | 51 => 217 | 53 => 123 | 4 => 4 | 183 => 435 | 182 => 434 | 131 => 86 | 5 => 5 | 218 => 482 | 222 => 485 | 228 => 513 | 229 => 514 | n => n, fun | n => n⟩
theorem Tryz.lays190 : Go.Proofs.Lays.n190 Tryz.prog Tryz.lays190_ren := {
  mixed := by kernel_rfl
  f125 := Tryz.func246.trans (congrArg some (by kernel_rfl))
  f128 := Tryz.func339.trans (congrArg some (by kernel_rfl))
  f129 := Tryz.func340.trans (congrArg some (by kernel_rfl))
  f190 := Tryz.func313.trans (congrArg some (by kernel_rfl))
  f258 := Tryz.func373.trans (congrArg some (by kernel_rfl))
  f302 := Tryz.func421.trans (congrArg some (by kernel_rfl))
  f303 := Tryz.func422.trans (congrArg some (by kernel_rfl))
  f304 := Tryz.func423.trans (congrArg some (by kernel_rfl))
  f305 := Tryz.func424.trans (congrArg some (by kernel_rfl))
  f306 := Tryz.func425.trans (congrArg some (by kernel_rfl))
  f307 := Tryz.func426.trans (congrArg some (by kernel_rfl))
  f308 := Tryz.func354.trans (congrArg some (by kernel_rfl))
  f309 := Tryz.func427.trans (congrArg some (by kernel_rfl))
  f310 := Tryz.func428.trans (congrArg some (by kernel_rfl))
  f329 := Tryz.func389.trans (congrArg some (by kernel_rfl))
  f330 := Tryz.func390.trans (congrArg some (by kernel_rfl))
  f333 := Tryz.func449.trans (congrArg some (by kernel_rfl))
  f334 := Tryz.func450.trans (congrArg some (by kernel_rfl))
  f335 := Tryz.func451.trans (congrArg some (by kernel_rfl))
  f336 := Tryz.func404.trans (congrArg some (by kernel_rfl))
  f344 := Tryz.func463.trans (congrArg some (by kernel_rfl))
  t0 := Tryz.underlying0
  a0 := Tryz.isAgg0
  z0 := Tryz.sizeOf0
  v0 := Tryz.zeroValue0
  t3 := Tryz.underlying3
  a3 := Tryz.isAgg3
  z3 := Tryz.sizeOf3
  v3 := Tryz.zeroValue3
  t4 := Tryz.underlying4
  a4 := Tryz.isAgg4
  z4 := Tryz.sizeOf4
  v4 := Tryz.zeroValue4
  t5 := Tryz.underlying5
  a5 := Tryz.isAgg5
  z5 := Tryz.sizeOf5
  v5 := Tryz.zeroValue5
  t9 := Tryz.underlying9
  a9 := Tryz.isAgg9
  z9 := Tryz.sizeOf9
  v9 := Tryz.zeroValue9
  t31 := Tryz.underlying67
  a31 := Tryz.isAgg67
  z31 := Tryz.sizeOf67
  v31 := Tryz.zeroValue67
  t46 := Tryz.underlying332
  a46 := Tryz.isAgg332
  z46 := Tryz.sizeOf332
  v46 := Tryz.zeroValue332
  t51 := Tryz.underlying217
  a51 := Tryz.isAgg217
  z51 := Tryz.sizeOf217
  v51 := Tryz.zeroValue217
  t53 := Tryz.underlying123
  a53 := Tryz.isAgg123
  z53 := Tryz.sizeOf123
  v53 := Tryz.zeroValue123
  t131 := Tryz.underlying86
  a131 := Tryz.isAgg86
  z131 := Tryz.sizeOf86
  v131 := Tryz.zeroValue86
  t182 := Tryz.underlying434
  a182 := Tryz.isAgg434
  z182 := Tryz.sizeOf434
  v182 := Tryz.zeroValue434
  t183 := Tryz.underlying435
  a183 := Tryz.isAgg435
  z183 := Tryz.sizeOf435
  v183 := Tryz.zeroValue435
  t218 := Tryz.underlying482
  a218 := Tryz.isAgg482
  z218 := Tryz.sizeOf482
  v218 := Tryz.zeroValue482
  t222 := Tryz.underlying485
  a222 := Tryz.isAgg485
  z222 := Tryz.sizeOf485
  v222 := Tryz.zeroValue485
  t228 := Tryz.underlying513
  a228 := Tryz.isAgg513
  z228 := Tryz.sizeOf513
  v228 := Tryz.zeroValue513
  t229 := Tryz.underlying514
  a229 := Tryz.isAgg514
  z229 := Tryz.sizeOf514
  v229 := Tryz.zeroValue514 }
open Go.Sort Go.RowKit in
theorem Tryz.slices_Sort_string (blk off cap : Nat) (ss : List (List UInt8)) (w : World) (hH : Holds encStr w blk off ss.toArray) (hblk : blk < w.heap.size) (hsz : ss.length < 4611686018427387904) :
    Calls Tryz.prog 313 #[.slice (some ⟨blk, off, none⟩) ss.length cap] w fun e w' =>
      e = .returned (.tuple #[]) ∧ ∃ n os, w' = grow (putRow encStr (Sort.ahead w n) blk off (ss.mergeSort fun x y => decide (x ≤ y)).toArray) os := Any.slices_Sort_string Tryz.lays190 blk off cap ss w hH hblk hsz
def Tryz.lays194_ren : Go.Shelf.Ren := ⟨fun | 194 => 314 | n => n, fun | 31 => 67 | 9 => 9 | 3 => 3 | 4 => 4 | 0 => 0 | n => n, fun | n => n⟩
theorem Tryz.lays194 : Go.Proofs.Lays.n194 Tryz.prog Tryz.lays194_ren := {
  mixed := by kernel_rfl
  f194 := Tryz.func314.trans (congrArg some (by kernel_rfl))
  t0 := Tryz.underlying0
  a0 := Tryz.isAgg0
  z0 := Tryz.sizeOf0
  v0 := Tryz.zeroValue0
  t3 := Tryz.underlying3
  a3 := Tryz.isAgg3
  z3 := Tryz.sizeOf3
  v3 := Tryz.zeroValue3
  t4 := Tryz.underlying4
  a4 := Tryz.isAgg4
  z4 := Tryz.sizeOf4
  v4 := Tryz.zeroValue4
  t9 := Tryz.underlying9
  a9 := Tryz.isAgg9
  z9 := Tryz.sizeOf9
  v9 := Tryz.zeroValue9
  t31 := Tryz.underlying67
  a31 := Tryz.isAgg67
  z31 := Tryz.sizeOf67
  v31 := Tryz.zeroValue67 }
open Go.RowKit Go.Lib Go.Sort in
theorem Tryz.slices_Compact_string (blk off cap : Nat) (zs : List (List UInt8)) (w : World) (hH : Holds encStr w blk off zs.toArray) (hsz : zs.length ≤ 9223372036854775807) (hcap : zs.length ≤ cap) :
    Calls Tryz.prog 314 #[.slice (some ⟨blk, off, none⟩) zs.length cap] w fun e w' => e = .returned (.slice (some ⟨blk, off, none⟩) (Lib.compact zs).length cap) ∧ ∃ q, w' = putRow encStr (Sort.ahead w q) blk off (Lib.compact zs ++ List.replicate (zs.length - (Lib.compact zs).length) []).toArray := Any.slices_Compact_string Tryz.lays194 blk off cap zs w hH hsz hcap
open Go.RowKit Go.Lib Go.Sort in
theorem Tryz.slices_Compact_string_empty (a : Option Addr) (cap : Nat) (w : World) :
    Calls Tryz.prog 314 #[.slice a 0 cap] w fun e w' => e = .returned (.slice a 0 cap) ∧ w' = w := Any.slices_Compact_string_empty Tryz.lays194 a cap w
open Go.RowKit Go.Sort in
theorem Tryz.slices_Sort_string_none (p : Option Addr) (cap : Nat) (w : World) :
    Calls Tryz.prog 313 #[.slice p 0 cap] w fun e w' => e = .returned (.tuple #[]) ∧ w' = w := Any.slices_Sort_string_none Tryz.lays190 p cap w
def Tryz.bsStr_ren : Go.Shelf.Ren := ⟨fun | 26 => 273 | 33 => 354 | 34 => 355 | 38 => 404 | n => n, fun | 24 => 67 | 9 => 9 | 3 => 3 | 4 => 4 | 40 => 332 | 0 => 0 | n => n, fun | n => n⟩
theorem Tryz.bsStr : Go.Proofs.Lays2.n26 Tryz.prog Tryz.bsStr_ren := {
  mixed := by kernel_rfl
  f26 := Tryz.func273.trans (congrArg some (by kernel_rfl))
  f33 := Tryz.func354.trans (congrArg some (by kernel_rfl))
  f34 := Tryz.func355.trans (congrArg some (by kernel_rfl))
  f38 := Tryz.func404.trans (congrArg some (by kernel_rfl))
  t0 := Tryz.underlying0
  a0 := Tryz.isAgg0
  z0 := Tryz.sizeOf0
  v0 := Tryz.zeroValue0
  t3 := Tryz.underlying3
  a3 := Tryz.isAgg3
  z3 := Tryz.sizeOf3
  v3 := Tryz.zeroValue3
  t4 := Tryz.underlying4
  a4 := Tryz.isAgg4
  z4 := Tryz.sizeOf4
  v4 := Tryz.zeroValue4
  t9 := Tryz.underlying9
  a9 := Tryz.isAgg9
  z9 := Tryz.sizeOf9
  v9 := Tryz.zeroValue9
  t24 := Tryz.underlying67
  a24 := Tryz.isAgg67
  z24 := Tryz.sizeOf67
  v24 := Tryz.zeroValue67
  t40 := Tryz.underlying332
  a40 := Tryz.isAgg332
  z40 := Tryz.sizeOf332
  v40 := Tryz.zeroValue332 }
end Go.Proofs

namespace Go.Proofs.YtpdoacfiiledcaaGreatDoor.Pak
open Go.RowKit Go.Proofs.YtpdoacfiiledcaaGreatDoor Go.Proofs.YtpdoacfiiledcaaGreatDoor.Spl SiftM
set_option linter.unusedVariables false

def lenV : Value → Nat
  | .slice _ n _ => n
  | _ => 0
theorem intV_one (l : List Nat) (x : Nat) : intV (l ++ [x]) = intV l ++ [Value.int .i64 (x : Int)] := by simp [intV]

set_option maxHeartbeats 2000000 in
set_option maxRecDepth 100000 in
theorem row_any (M c doc : Nat) (f : Nat → Nat → Option Nat) (iv tv : Value) (l : List Nat) (w : World) (hm : MapIs w M c f) (hl : ∀ i (h : i < l.length), f doc i = some l[i]) (he : f doc l.length = none) (hl2 : l.length ≤ 1000) (hd : doc ≤ 2000000) (hiv : iv.oneCell' = true) (htv : tv.oneCell' = true) :
    Calls Tryz.prog 360 #[.agg #[iv, tv, .map (some M)], .int .i64 doc] w fun e w' => ∃ v, e = .returned v ∧ w'.ownsRow w.heap.size 3 1 v l.length (intV l) ∧ Kp [] w w' := by
  obtain ⟨i0, hi, hz0, hz1, hz2⟩ := info_parts info3
  have hMw := hm.lt
  have HM := hide hm
  have HL := hide hl
  have HE := hide he
  clear hm hl he
  go_enter Tryz.func360, Tryz.ntmps360
  go_wp2_with fail
  obtain ⟨W, hW⟩ : ∃ W, w.alloc (.cells #[iv, tv, .map (some M)] 316) = W := ⟨_, rfl⟩
  rw [hW]
  have k0 : Kp [] w W := by rw [← hW]; exact (Kp.refl _ _).alloc _
  have hb0 : W.heap[w.heap.size]? = some (.cells #[iv, tv, .map (some M)] 316 (0, 0)) := by rw [← hW]; exact heap_alloc_new w _
  have hm0 := HM.out.kp k0 (by simp)
  have hsz0 : W.heap.size = w.heap.size + 1 := by rw [← hW]; simp
  have HB0 := hide hb0
  have HM0 := hide hm0
  clear hb0 hm0 hW
  go_loopw [5] (fun lv wr => ∃ (k : Nat) (a : Option Addr) (cap : Nat), k ≤ l.length ∧ lv = .slice a k cap ∧ wr.ownsRow w.heap.size 3 1 (.slice a k cap) k (intV (l.take k)) ∧ wr.heap[w.heap.size]? = some (.cells #[iv, tv, .map (some M)] 316 (0, 0)) ∧ MapIs wr M c f ∧ w.heap.size < wr.heap.size ∧ Kp [] w wr) (fun lv _ => l.length + 1 - lenV lv)
  case atStart => exact ⟨0, _, _, by omega, rfl, World.ownsRow_nil _ _ _ _, HB0.out, HM0.out, by omega, k0⟩
  case round =>
    clear HB0 HM0
    obtain ⟨k, a, cap, hk, rfl, hown, hb, hm, hsz, hkp⟩ := hrel
    obtain ⟨b0, b1, b2, _, _, _⟩ := tb_cells hb
    obtain ⟨x, hlook, hx⟩ := hm.look doc k (by omega) (by omega)
    have HO := hide hown
    have HB := hide hb
    have HMr := hide hm
    clear hown hb hm
    by_cases hlt : k < l.length
    · have hfk := HL.out k hlt
      rw [hfk] at hlook
      have hxk := hx _ hfk
      subst hxk
      simp only [Option.isSome_some] at hlook
      have hsn := hide (take_snocL l k hlt)
      obtain ⟨y, hy⟩ : ∃ y, l[k] = y := ⟨_, rfl⟩
      rw [hy] at hlook hsn
      clear hx hfk hy
      go_wp2_with (first
        | (at_builtin; refine wpList_append_own_at _ rfl _ _ 24 rfl w.heap.size 3 i0 (.int .i64 0) 1 8 Tryz.underlying24 hi hz0 hz1 hz2 rfl (by decide) _ _ _ rfl (HO.out.alloc _) ⟨wr.heap.size, 0, none⟩ 1 1 [.int .i64 (y : Int)] rfl rfl (one_new _ _ _) (one_cell _ _) ?c3 ?c4 ?c5 ?_)
        | fail)
      case c3 => unfold maxLen; omega
      case c4 => omega
      case c5 => simp; omega
      intro v' w2 hown2 hgrow _ _
      have hgrow' := hgrow
      obtain ⟨a', cap', rfl, _⟩ := owns_forms hown2
      have hwne := owns_ne HO.out HB.out (by decide)
      have hmne := owns_ne_map HO.out HMr.out
      have k2 : Kp (Value.slice a k cap).ownBlock.toList wr w2 := ((Kp.refl _ _).alloc _).grown hgrow (fun j hj => .inl (by simp [hj]))
      have hb2 := k2.heap HB.out (fun hx => hwne (by simpa using hx))
      have hm2 := HMr.out.kp k2 (fun hx => hmne (by simpa using hx))
      have hsz2 := k2.size
      have kp2 : Kp [] w w2 := hkp.trans k2 (fun x hx => .inr (HO.out.lt x (by simpa using hx)).1)
      have HO2 := hide hown2
      have HB2 := hide hb2
      have HM2 := hide hm2
      clear hown2 hb2 hm2 hgrow hgrow' hlook
      go_wp2_with fail
      go_roundw
      case rel =>
        refine ⟨k + 1, a', cap', by omega, rfl, ?_, HB2.out, HM2.out, by omega, kp2⟩
        rw [hsn.out, intV_one]
        exact HO2.out
      case measure => simp [lenV]; omega
    · have ek : k = l.length := by omega
      subst ek
      rw [HE.out] at hlook
      simp only [Option.isSome_none] at hlook
      clear hx
      go_wp2_with fail
      go_ret
      refine ⟨_, rfl, ?_, hkp⟩
      have := HO.out
      rwa [List.take_length] at this
end Go.Proofs.YtpdoacfiiledcaaGreatDoor.Pak

