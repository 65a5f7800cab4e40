import Derived.Test.YtpdoacfiiledcaaGreatDoorV12
import Derived.Test.YtpdoacfiiledcaaGreatDoorV10
import Derived.Test.YtpdoacfiiledcaaGreatDoorV13
import Derived.Deep.RegionHeld3
import Derived.Sort.Walk0
import Derived.Deep.AppendLies
import Derived.Deep.RegionLaw

namespace Go.Proofs.YtpdoacfiiledcaaGreatDoor.Pak
open Go.RowKit Go.Proofs.YtpdoacfiiledcaaGreatDoor Go.Proofs.YtpdoacfiiledcaaGreatDoor.Spl SiftM
set_option linter.unusedVariables false

/-- The table in block T. -/
structure Tabl (w : World) (T B : Nat) (ids : List Nat) (terms : List (List UInt8)) (M c : Nat) (f : Nat → Nat → Option Nat) (iv tv : Value) : Prop where
  blk : w.heap[T]? = some (.cells #[iv, tv, .map (some M)] 316 (0, 0))
  ids : w.ownsRow B 3 1 iv ids.length (intV ids)
  terms : w.ownsRow B 9 1 tv terms.length (strV terms)
  map : MapIs w M c f
  leT : B ≤ T
  leM : B ≤ M
theorem tb_cells {w : World} {T : Nat} {x y z : Value} {t : TypeId} (h : w.heap[T]? = some (.cells #[x, y, z] t (0, 0))) :
    w.cell? ⟨T, 0, none⟩ = some x ∧ w.cell? ⟨T, 1, none⟩ = some y ∧ w.cell? ⟨T, 2, none⟩ = some z ∧ w.frozen? ⟨T, 0, none⟩ = false ∧ w.frozen? ⟨T, 1, none⟩ = false ∧ w.frozen? ⟨T, 2, none⟩ = false := by
  simp [World.cell?, World.frozen?, h]
theorem map_ne {w : World} {M T : Nat} {c : Nat} {f : Nat → Nat → Option Nat} {cs : Array Value} {t : TypeId} {fr : Nat × Nat} (h : MapIs w M c f) (hT : w.heap[T]? = some (.cells cs t fr)) : M ≠ T := by
  rintro rfl
  obtain ⟨es, cl, h1⟩ := h.block
  rw [hT] at h1; simp at h1
theorem owns_ne_map {w : World} {M c base n size : Nat} {f : Nat → Nat → Option Nat} {e : TypeId} {v : Value} {xs : List Value} (h : w.ownsRow base e size v n xs) (hM : MapIs w M c f) : v.ownBlock ≠ some M := by
  intro ee
  rcases h.2 with ⟨rfl, _⟩ | ⟨g, cap, cur, rfl, _, hh, _⟩
  · simp [Value.ownBlock] at ee
  · simp [Value.ownBlock] at ee
    subst ee
    exact map_ne hM hh rfl
/-- Whatever turns the map and blocks of other kinds alone keeps the rest of the table. -/
theorem Tabl.kp {S : List Nat} {w w' : World} {T B M c c' : Nat} {ids : List Nat} {terms : List (List UInt8)} {f f' : Nat → Nat → Option Nat} {iv tv : Value} (h : Tabl w T B ids terms M c f iv tv) (k : Kp S w w') (hm : MapIs w' M c' f') (hT : T ∉ S) (hi : ∀ x ∈ S, iv.ownBlock ≠ some x) (ht : ∀ x ∈ S, tv.ownBlock ≠ some x) : Tabl w' T B ids terms M c' f' iv tv :=
  ⟨k.heap h.blk hT, k.owns h.ids (fun g hg hx => hi g hx hg), k.owns h.terms (fun g hg hx => ht g hx hg), hm, h.leT, h.leM⟩

abbrev PS := Nat × (Nat → Nat → Option Nat) × Option (List UInt8)
def plStep (tix doc : Nat) (s : PS) (p : Nat) : PS := (if (s.2.1 doc p).isSome then s.1 else s.1 + 1, putAt s.2.1 doc p tix, if (s.2.1 doc p).isSome then none else s.2.2)
def placesF (tix doc : Nat) (c : Nat) (f : Nat → Nat → Option Nat) (st : Option (List UInt8)) : PS :=
  (riseN 59 (numF st 1 60).2 (numF st 1 60).1).1.foldl (plStep tix doc) (c, f, (riseN 59 (numF st 1 60).2 (numF st 1 60).1).2.2)
theorem numF_le (st : Option (List UInt8)) (lo : Int) (hi : Nat) : (numF st lo hi).1 ≤ hi := by
  unfold numF; split
  · exact Nat.zero_le _
  · rename_i h
    have h3 := (not_or.1 (not_or.1 h).2).2
    exact Int.ofNat_le.1 (Int.not_lt.1 h3)
set_option maxRecDepth 100000 in
theorem riseN_mem (most : Int) (st : Option (List UInt8)) (k : Nat) : ∀ p ∈ (riseN most st k).1, p < k * 268435456 := by
  induction k with
  | zero => intro p h; have h' : p ∈ ([] : List Nat) := h; simp at h'
  | succ k ih =>
    intro p h
    simp only [riseN, List.mem_append, List.mem_singleton] at h
    have h1 := riseN_le most st k
    have h2 := numF_lt (riseN most st k).2.2 0 (most - (riseN most st k).2.1)
    rcases h with h | h
    · exact Nat.lt_of_lt_of_le (ih p h) (Nat.mul_le_mul_right _ (Nat.le_succ k))
    · rw [h, Nat.succ_mul]; exact Nat.add_lt_add_of_le_of_lt h1 h2
theorem plStep_c (tix doc : Nat) (s : PS) : ∀ l : List Nat, (l.foldl (plStep tix doc) s).1 ≤ s.1 + l.length
  | [] => by simp
  | p :: r => by
    have h := plStep_c tix doc (plStep tix doc s p) r
    have : (plStep tix doc s p).1 ≤ s.1 + 1 := by unfold plStep; split <;> simp
    simp only [List.foldl_cons, List.length_cons]; omega

set_option maxHeartbeats 2000000 in
set_option maxRecDepth 100000 in
theorem places_rd (R B T M doc c : Nat) (ids : List Nat) (terms : List (List UInt8)) (f : Nat → Nat → Option Nat) (iv tv : Value) (st : Option (List UInt8)) (w : World) (h : Rd w R B st) (ht : Tabl w T B ids terms M c f iv tv) (h0 : 0 < terms.length) (h1 : terms.length ≤ 100000) (hc : c ≤ 500000000) (hd : doc ≤ 1099511627776) (hBw : B ≤ w.heap.size) :
    Calls Tryz.prog 418 #[.pointer (some ⟨R, 0, none⟩), .pointer (some ⟨T, 0, none⟩), .int .i64 doc] w fun e w' =>
      e = .returned (.tuple #[]) ∧ Rd w' R B (placesF (terms.length - 1) doc c f st).2.2 ∧ Tabl w' T B ids terms M (placesF (terms.length - 1) doc c f st).1 (placesF (terms.length - 1) doc c f st).2.1 iv tv ∧ Kp [R, M] w w' := by
  obtain ⟨x0, y0, hb⟩ := h.block
  have hRT : R ≠ T := by
    rintro rfl
    have := ht.blk; rw [hb] at this; simp at this
  have hMR := map_ne ht.map hb
  have hRw := heap_lt hb
  have hMw := ht.map.lt
  have hMT := map_ne ht.map ht.blk
  have hiR := owns_ne ht.ids hb (by decide)
  have htR := owns_ne ht.terms hb (by decide)
  have hiM := owns_ne_map ht.ids ht.map
  have htM := owns_ne_map ht.terms ht.map
  have hN := number_rd R B st 1 60 w h (by omega)
  have hn60 := numF_le st 1 60
  unfold placesF
  obtain ⟨n, s1, hn⟩ : ∃ n s1, numF st 1 60 = (n, s1) := ⟨_, _, rfl⟩
  rw [show ((60 : Nat) : Int) = 60 from rfl] at hn60
  rw [hn] at hN hn60 ⊢
  simp only at hN hn60 ⊢
  obtain ⟨l, le, s2, hl⟩ : ∃ l le s2, riseN 59 s1 n = (l, le, s2) := ⟨_, _, _, rfl⟩
  have hll := riseN_len 59 s1 n
  have hlm := riseN_mem 59 s1 n
  have hRi := fun w' (h' : Rd w' R B s1) (hB' : B ≤ w'.heap.size) => rising_rd R B s1 n 59 w' h' (by omega) (by omega) (by omega) hB'
  rw [hl] at hll hlm hRi ⊢
  simp only at hll hlm hRi ⊢
  obtain ⟨res, hres⟩ : ∃ res, l.foldl (plStep (terms.length - 1) doc) (c, f, s2) = res := ⟨_, rfl⟩
  rw [hres]
  have HRES := hide hres
  have HN := hide hN
  have HRI := hide hRi
  have HT := hide ht
  have HLM := hide hlm
  have HLL := hide hll
  clear hN hRi ht hlm hll hres hn hl h hb
  go_enter Tryz.func418, Tryz.ntmps418
  go_wp2_with fail
  refine HN.out.mono ?_
  rintro e w1 ⟨rfl, hr1, hk1⟩
  have HR1 := hide hr1
  have hsz1 := hk1.size
  clear hr1
  go_wp2_with fail
  refine (HRI.out w1 HR1.out (by omega)).mono ?_
  rintro e w2 ⟨v, rfl, hv2, hr2, hk2⟩
  obtain ⟨a, cap, rfl, ha⟩ := owns_forms hv2
  have hk12 : Kp [R] w w2 := hk1.next hk2
  have ht2 : Tabl w2 T B ids terms M c f iv tv := HT.out.kp hk12 (HT.out.map.kp hk12 (by simpa using hMR)) (by simpa using hRT.symm) (by simpa using hiR) (by simpa using htR)
  have hsz2 := hk2.size
  have HR2 := hide hr2
  have HT2 := hide ht2
  have HV2 := hide hv2
  clear hr2 ht2 hv2
  go_wp2_with fail
  go_loopw [18] (fun iv' wr => ∃ (k : Nat) (s : PS), k ≤ n ∧ iv' = .int .i64 k ∧ (l.take k).foldl (plStep (terms.length - 1) doc) (c, f, s2) = s ∧ Rd wr R B s.2.2 ∧ Tabl wr T B ids terms M s.1 s.2.1 iv tv ∧ wr.ownsRow w1.heap.size 3 1 (.slice a n cap) n (intV l) ∧ w1.heap.size ≤ wr.heap.size ∧ Kp [R, M] w wr) (fun iv' _ => n - (intOf iv').toNat)
  case atStart => exact ⟨0, _, by omega, rfl, rfl, HR2.out, HT2.out, HV2.out, hsz2, hk12.mono (by simp)⟩
  case round =>
    clear HR2 HT2 HV2 hk12 hsz2
    obtain ⟨k, s, hk, rfl, hs, hr, htb, hv, hsw, hkp⟩ := hrel
    by_cases hlt : k < n
    · obtain ⟨g, rfl⟩ := ha (by omega)
      have hkl : k < l.length := by rw [HLL.out]; exact hlt
      have hck := ints_cells hv HLL.out k hkl
      have hpk := HLM.out l[k] (List.getElem_mem hkl)
      have hstep := hide (show (l.take (k + 1)).foldl (plStep (terms.length - 1) doc) (c, f, s2) = plStep (terms.length - 1) doc s l[k] by rw [take_snocL l k hkl, List.foldl_append, hs]; rfl)
      have hcs := plStep_c (terms.length - 1) doc (c, f, s2) (l.take k)
      rw [hs] at hcs
      simp only [List.length_take] at hcs
      obtain ⟨p, hp⟩ : ∃ p, l[k] = p := ⟨_, rfl⟩
      rw [hp] at hck hpk hstep
      obtain ⟨c', f', s'⟩ := s
      simp only at hr htb hcs
      obtain ⟨b0, b1, b2, fz0, fz1, fz2⟩ := tb_cells htb.blk
      obtain ⟨at', capt, e1, e2⟩ := owns_forms htb.terms
      subst e1
      have HR := hide hr
      have HTB := hide htb
      have HV := hide hv
      have HSt := hide hs
      have hTw := heap_lt htb.blk
      clear hr htb hv hs hp HRES
      obtain ⟨W, hW⟩ : ∃ W, wr.alloc (.cells #[.int .i64 (doc : Int), .int .i64 (p : Int)] 410) = W := ⟨_, rfl⟩
      have kW : Kp [] wr W := by rw [← hW]; exact (Kp.refl _ _).alloc _
      have hmW : MapIs W.drew M c' f' := HTB.out.map.kp (S := []) (by rw [← hW]; exact ((Kp.refl _ _).alloc _).drewN 1) (by simp)
      obtain ⟨x, hlook, hx⟩ := hmW.look doc p hd (by omega)
      have hS1 : W.cell? ⟨T, 2, none⟩ = some (.map (some M)) := kW.cellv b2 (by simp)
      have hS4 : W.cell? ⟨T, 1, none⟩ = some (.slice at' terms.length capt) := kW.cellv b1 (by simp)
      have hsb : W.heap[wr.heap.size]? = some (.cells #[.int .i64 (doc : Int), .int .i64 (p : Int)] 410 (0, 0)) := by rw [← hW]; exact heap_alloc_new wr _
      obtain ⟨hS2, hS3, _, _⟩ := rd_cells hsb
      have HSB := hide hsb
      have hWsz : W.heap.size = wr.heap.size + 1 := by rw [← hW]; simp
      have HWsz := hide hWsz
      clear hsb hWsz
      have etix : ((terms.length - 1 : Nat) : Int) = (terms.length : Int) - 1 := by omega
      have Hetix := hide etix
      clear etix
      have hRT' := hRT
      by_cases hit : (f' doc p).isSome = true
      · rw [hit] at hlook
        have Hst2 : Hid (plStep (terms.length - 1) doc (c', f', s') p = (c', putAt f' doc p (terms.length - 1), none)) := by show _ = _; simp [plStep, hit]
        have Hhit := hide hit
        clear hit
        go_wp2_with fail
        clear hW
        go_region_held3 (fun w' => w'.cell? ⟨T, 2, none⟩ = some (.map (some M)) ∧ w'.cell? ⟨wr.heap.size, 0, none⟩ = some (.int .i64 (doc : Int)) ∧ w'.cell? ⟨wr.heap.size, 1, none⟩ = some (.int .i64 (p : Int))) (go_keep) (fail)
        have kWd : Kp [] wr W.drew := kW.drewN 1
        have hRW : Rd W.drew R B s' := HR.out.kp kWd (by simp) (by simp)
        obtain ⟨xr, yr, hbr⟩ := hRW.block
        have HBR := hide hbr
        have hBR := hRW.le
        clear hlook hRW hbr
        go_wp2_with fail
        refine (fail_any R B hBR _ _ W.drew HBR.out).mono ?_
        rintro e w3 ⟨rfl, hr3, hk3⟩
        have hTR : T ∉ [R] := by simpa using hRT.symm
        have hsR : wr.heap.size ∉ [R] := by
          have := HR.out; obtain ⟨_, _, hb⟩ := this.block; have := heap_lt hb; simp; omega
        have q1 : w3.cell? ⟨T, 2, none⟩ = some (.map (some M)) := hk3.cellv hS1 hTR
        have q2 : w3.cell? ⟨T, 1, none⟩ = some (.slice at' terms.length capt) := hk3.cellv hS4 hTR
        have q3 : w3.cell? ⟨wr.heap.size, 0, none⟩ = some (.int .i64 (doc : Int)) := hk3.cellv hS2 hsR
        have q4 : w3.cell? ⟨wr.heap.size, 1, none⟩ = some (.int .i64 (p : Int)) := hk3.cellv hS3 hsR
        have hm3 : MapIs w3.drew M c' f' := hmW.kp (S := [R]) (hk3.drewN 1) (by simpa using hMR)
        obtain ⟨w4, hst, hm4, hk4⟩ := hm3.store (by omega) doc p (terms.length - 1) hd (by omega) (by omega)
        rw [Hetix.out] at hst
        rw [Hhit.out] at hm4
        have hTM : T ∉ [M] := by simpa using hMT.symm
        have hsM : wr.heap.size ∉ [M] := by have := HTB.out.map.lt; simp; omega
        have r1 : w4.cell? ⟨T, 2, none⟩ = some (.map (some M)) := hk4.cellv q1 hTM
        have r2 : w4.cell? ⟨T, 1, none⟩ = some (.slice at' terms.length capt) := hk4.cellv q2 hTM
        have r3 : w4.cell? ⟨wr.heap.size, 0, none⟩ = some (.int .i64 (doc : Int)) := hk4.cellv q3 hsM
        have r4 : w4.cell? ⟨wr.heap.size, 1, none⟩ = some (.int .i64 (p : Int)) := hk4.cellv q4 hsM
        have HR3 := hide hr3
        have HM4 := hide hm4
        clear hS1 hS2 hS3 hS4 hm3 hr3 hm4
        have b0' : (0 : Int) ≤ (terms.length : Int) - 1 := by omega
        have b1' : IntKind.i64.wrap ((terms.length : Int) - 1) = (terms.length : Int) - 1 := IntWalk.i64_in _ ⟨by omega, by omega⟩
        go_wp2_with fail
        go_region_held3 (fun w' => w'.cell? ⟨T, 2, none⟩ = some (.map (some M)) ∧ w'.cell? ⟨T, 1, none⟩ = some (.slice at' terms.length capt) ∧ w'.cell? ⟨wr.heap.size, 0, none⟩ = some (.int .i64 (doc : Int)) ∧ w'.cell? ⟨wr.heap.size, 1, none⟩ = some (.int .i64 (p : Int))) (first | (exact ⟨r1, r2, r3, r4⟩) | go_keep) (fail)
        have k34 : Kp [R, M] wr w4 := ((kWd.mono (by simp)).next (hk3.mono (by simp))).trans (S' := [M]) ⟨hk4.os, hk4.tape, hk4.output, hk4.size, hk4.block⟩ (by simp)
        clear hst q1 q2 q3 q4 b0' b1' r1 r2 r3 r4
        go_wp2_with fail
        go_roundw
        case rel =>
          refine ⟨k + 1, _, by omega, by go_num, hstep.out, ?_, ?_, ?_, by have := k34.size; omega, hkp.next k34⟩
          · rw [Hst2.out]; exact HR3.out.kp (S := [M]) ⟨hk4.os, hk4.tape, hk4.output, hk4.size, hk4.block⟩ (by simpa using hMR.symm) (by simpa using HTB.out.leM)
          · rw [Hst2.out]
            exact HTB.out.kp k34 HM4.out (by simp [hRT.symm, hMT.symm]) (by simp [hiR, hiM]) (by simp [htR, htM])
          · refine k34.owns HV.out (fun g' hg' hx => ?_)
            have hgl := (HV.out.lt g' hg').1
            have hRl : R < w1.heap.size := by omega
            have hMl : M < w1.heap.size := by omega
            simp at hx; omega
        case measure => simp [intOf]; omega
      · have hit' : (f' doc p).isSome = false := by simpa using hit
        rw [hit'] at hlook
        have Hst2 : Hid (plStep (terms.length - 1) doc (c', f', s') p = (c' + 1, putAt f' doc p (terms.length - 1), s')) := by show _ = _; simp [plStep, hit']
        have Hhit := hide hit'
        clear hit hit'
        go_wp2_with fail
        clear hW
        go_region_held3 (fun w' => w'.cell? ⟨T, 2, none⟩ = some (.map (some M)) ∧ w'.cell? ⟨wr.heap.size, 0, none⟩ = some (.int .i64 (doc : Int)) ∧ w'.cell? ⟨wr.heap.size, 1, none⟩ = some (.int .i64 (p : Int))) (go_keep) (fail)
        obtain ⟨w3, hw3⟩ : ∃ w3, W.drew = w3 := ⟨_, rfl⟩
        have kWd : Kp [] wr w3 := by rw [← hw3]; exact kW.drewN 1
        have hR3 : Rd w3 R B s' := HR.out.kp kWd (by simp) (by simp)
        have q1 : w3.cell? ⟨T, 2, none⟩ = some (.map (some M)) := by rw [← hw3]; exact hS1
        have q2 : w3.cell? ⟨T, 1, none⟩ = some (.slice at' terms.length capt) := by rw [← hw3]; exact hS4
        have q3 : w3.cell? ⟨wr.heap.size, 0, none⟩ = some (.int .i64 (doc : Int)) := by rw [← hw3]; exact hS2
        have q4 : w3.cell? ⟨wr.heap.size, 1, none⟩ = some (.int .i64 (p : Int)) := by rw [← hw3]; exact hS3
        have hm3 : MapIs w3.drew M c' f' := by rw [hw3] at hmW; exact hmW.kp (S := []) ((Kp.refl _ _).drewN 1) (by simp)
        obtain ⟨w4, hst, hm4, hk4⟩ := hm3.store (by omega) doc p (terms.length - 1) hd (by omega) (by omega)
        rw [Hetix.out] at hst
        rw [Hhit.out] at hm4
        have hTM : T ∉ [M] := by simpa using hMT.symm
        have hsM : wr.heap.size ∉ [M] := by have := HTB.out.map.lt; simp; omega
        have r1 : w4.cell? ⟨T, 2, none⟩ = some (.map (some M)) := hk4.cellv q1 hTM
        have r2 : w4.cell? ⟨T, 1, none⟩ = some (.slice at' terms.length capt) := hk4.cellv q2 hTM
        have r3 : w4.cell? ⟨wr.heap.size, 0, none⟩ = some (.int .i64 (doc : Int)) := hk4.cellv q3 hsM
        have r4 : w4.cell? ⟨wr.heap.size, 1, none⟩ = some (.int .i64 (p : Int)) := hk4.cellv q4 hsM
        have HR3 := hide hR3
        have HM4 := hide hm4
        clear hS1 hS2 hS3 hS4 hm3 hR3 hm4 hlook
        have b0' : (0 : Int) ≤ (terms.length : Int) - 1 := by omega
        have b1' : IntKind.i64.wrap ((terms.length : Int) - 1) = (terms.length : Int) - 1 := IntWalk.i64_in _ ⟨by omega, by omega⟩
        rw [hw3]
        clear hw3 hmW
        go_wp2_with fail
        go_region_held3 (fun w' => w'.cell? ⟨T, 2, none⟩ = some (.map (some M)) ∧ w'.cell? ⟨T, 1, none⟩ = some (.slice at' terms.length capt) ∧ w'.cell? ⟨wr.heap.size, 0, none⟩ = some (.int .i64 (doc : Int)) ∧ w'.cell? ⟨wr.heap.size, 1, none⟩ = some (.int .i64 (p : Int))) (first | (exact ⟨r1, r2, r3, r4⟩) | go_keep) (fail)
        have k34 : Kp [R, M] wr w4 := (kWd.mono (by simp)).trans (S' := [M]) ⟨hk4.os, hk4.tape, hk4.output, hk4.size, hk4.block⟩ (by simp)
        clear hst q1 q2 q3 q4 b0' b1' r1 r2 r3 r4
        go_wp2_with fail
        go_roundw
        case rel =>
          refine ⟨k + 1, _, by omega, by go_num, hstep.out, ?_, ?_, ?_, by have := k34.size; omega, hkp.next k34⟩
          · rw [Hst2.out]; exact HR3.out.kp (S := [M]) ⟨hk4.os, hk4.tape, hk4.output, hk4.size, hk4.block⟩ (by simpa using hMR.symm) (by simpa using HTB.out.leM)
          · rw [Hst2.out]
            exact HTB.out.kp k34 HM4.out (by simp [hRT.symm, hMT.symm]) (by simp [hiR, hiM]) (by simp [htR, htM])
          · refine k34.owns HV.out (fun g' hg' hx => ?_)
            have hgl := (HV.out.lt g' hg').1
            have hRl : R < w1.heap.size := by omega
            have hMl : M < w1.heap.size := by omega
            simp at hx; omega
        case measure => simp [intOf]; omega
    · have ek : k = n := by omega
      subst ek
      have e2 : s = res := by
        rw [← hs, ← HRES.out, List.take_of_length_le (by rw [HLL.out]; omega)]
      subst e2
      have HR := hide hr
      have HTB := hide htb
      clear hr htb hv hs
      go_wp2_with fail
      go_end0
      exact ⟨rfl, HR.out, HTB.out, hkp⟩
end Go.Proofs.YtpdoacfiiledcaaGreatDoor.Pak

namespace Go.Proofs.YtpdoacfiiledcaaGreatDoor.Pak
open Go.RowKit Go.Proofs.YtpdoacfiiledcaaGreatDoor Go.Proofs.YtpdoacfiiledcaaGreatDoor.Spl SiftM
set_option linter.unusedVariables false

def isNextF (terms : List (List UInt8)) (t : List UInt8) : Bool := decide (terms.length = 0) || decide (terms.getD (terms.length - 1) [] < t)

theorem strs_cells {w : World} {base n g cap : Nat} {l : List (List UInt8)} (h : w.ownsRow base 9 1 (.slice (some ⟨g, 0, none⟩) n cap) n (strV l)) (hl : l.length = n) : ∀ i (hi : i < l.length), w.cell? ⟨g, i, none⟩ = some (.string ⟨l[i].toArray⟩) := by
  intro i hi
  have := h.cells (g := g) rfl i (.string ⟨l[i].toArray⟩) (by simp [strV, hi])
  have e : (⟨g, 0, none⟩ : Addr).add i = ⟨g, i, none⟩ := by unfold Addr.add; split <;> simp_all
  rwa [e] at this

set_option maxHeartbeats 400000 in
set_option maxRecDepth 100000 in
theorem next_tb (T B M c : Nat) (ids : List Nat) (terms : List (List UInt8)) (f : Nat → Nat → Option Nat) (iv tv : Value) (s : List UInt8) (w : World) (ht : Tabl w T B ids terms M c f iv tv) (hl : terms.length ≤ 100000) :
    Calls Tryz.prog 417 #[.string ⟨s.toArray⟩, tv] w fun e w' => e = .returned (.bool (isNextF terms s)) ∧ w' = w := by
  obtain ⟨b0, b1, b2, fz0, fz1, fz2⟩ := tb_cells ht.blk
  obtain ⟨a, cap, e1, ha⟩ := owns_forms ht.terms
  subst e1
  by_cases h0 : terms.length = 0
  · have e : Hid (isNextF terms s = true) := by show _ = _; simp [isNextF, h0]
    rw [h0]
    clear ht b0 b1 b2 fz0 fz1 fz2
    go_enter Tryz.func417, Tryz.ntmps417
    go_wp2_with fail
    go_ret
    exact ⟨ret_bool e.out.symm, rfl⟩
  · obtain ⟨g, rfl⟩ := ha (by omega)
    have hc := strs_cells ht.terms rfl (terms.length - 1) (by omega)
    have hget : terms.getD (terms.length - 1) [] = terms[terms.length - 1] := by rw [List.getD_eq_getElem?_getD, List.getElem?_eq_getElem (by omega)]; rfl
    have e : Hid (isNextF terms s = decide (terms[terms.length - 1] < s)) := by show _ = _; unfold isNextF; rw [hget]; simp [h0]
    obtain ⟨n, hn⟩ : ∃ n, terms.length = n := ⟨_, rfl⟩
    obtain ⟨x, hx⟩ : ∃ x, terms[terms.length - 1] = x := ⟨_, rfl⟩
    rw [hx] at hc e
    rw [hn] at hc hl h0 ⊢
    have hn1 : ((n : Int) - 1).toNat = n - 1 := by omega
    clear ht hx hn hget b0 b1 b2 fz0 fz1 fz2
    go_enter Tryz.func417, Tryz.ntmps417
    go_wp2_with fail
    go_ret
    have hn0 : ((n : Int) == 0) = false := by simp; omega
    exact ⟨ret_bool (by rw [e.out, ← Go.Proofs.bytesLess_eq]; simp [hn0]), rfl⟩

/-- What one doc of a term gives: how far the docs have come; the entries. -/
def docStep (tix N : Nat) (s : Nat × PS) : Nat × PS :=
  (s.1 + (numF s.2.2.2 0 ((N : Int) - 1 - s.1)).1 + 1, placesF tix (s.1 + (numF s.2.2.2 0 ((N : Int) - 1 - s.1)).1) s.2.1 s.2.2.1 (numF s.2.2.2 0 ((N : Int) - 1 - s.1)).2)
def docN (tix N : Nat) (s : Nat × PS) : Nat → Nat × PS
  | 0 => s
  | k + 1 => docStep tix N (docN tix N s k)
abbrev TS := List (List UInt8) × PS
/-- The reader behind a term. -/
def stTerm (terms : List (List UInt8)) (st : Option (List UInt8)) : Option (List UInt8) :=
  if isWord (textF (numF st 1 8).2 (numF st 1 8).1).1 && isNextF terms (textF (numF st 1 8).2 (numF st 1 8).1).1 then (textF (numF st 1 8).2 (numF st 1 8).1).2 else none
def termF (N : Nat) (s : TS) : TS :=
  (s.1 ++ [(textF (numF s.2.2.2 1 8).2 (numF s.2.2.2 1 8).1).1],
   (docN s.1.length N (0, s.2.1, s.2.2.1, (numF (stTerm s.1 s.2.2.2) 1 N).2) (numF (stTerm s.1 s.2.2.2) 1 N).1).2)
theorem placesF_c (tix doc c : Nat) (f : Nat → Nat → Option Nat) (st : Option (List UInt8)) : (placesF tix doc c f st).1 ≤ c + 60 := by
  unfold placesF
  have h := plStep_c tix doc (c, f, (riseN 59 (numF st 1 60).2 (numF st 1 60).1).2.2) (riseN 59 (numF st 1 60).2 (numF st 1 60).1).1
  rw [riseN_len] at h
  have h2 := numF_le st 1 60
  simp only at h
  exact Nat.le_trans h (Nat.add_le_add_left h2 c)
theorem docN_c (tix N : Nat) (s : Nat × PS) : ∀ k, (docN tix N s k).2.1 ≤ s.2.1 + 60 * k
  | 0 => by simp [docN]
  | k + 1 => by
    have h := docN_c tix N s k
    have h2 := placesF_c tix ((docN tix N s k).1 + (numF (docN tix N s k).2.2.2 0 ((N : Int) - 1 - (docN tix N s k).1)).1) (docN tix N s k).2.1 (docN tix N s k).2.2.1 (numF (docN tix N s k).2.2.2 0 ((N : Int) - 1 - (docN tix N s k).1)).2
    simp only [docN, docStep]
    omega
theorem docN_le (tix N : Nat) (s : Nat × PS) (h0 : s.1 = 0) (k : Nat) : (docN tix N s k).1 ≤ k * 268435456 := by
  induction k with
  | zero => simp [docN, h0]
  | succ k ih =>
    have h2 := numF_lt (docN tix N s k).2.2.2 0 ((N : Int) - 1 - (docN tix N s k).1)
    simp only [docN, docStep]
    rw [Nat.succ_mul]
    exact Nat.succ_le_of_lt (Nat.add_lt_add_of_le_of_lt ih h2)
end Go.Proofs.YtpdoacfiiledcaaGreatDoor.Pak

namespace Go.Proofs.YtpdoacfiiledcaaGreatDoor.Pak
open Go.RowKit Go.Proofs.YtpdoacfiiledcaaGreatDoor Go.Proofs.YtpdoacfiiledcaaGreatDoor.Spl SiftM
set_option linter.unusedVariables false

theorem strV_one (l : List (List UInt8)) (x : List UInt8) : strV (l ++ [x]) = strV l ++ [Value.string ⟨x.toArray⟩] := by simp [strV]
/-- The table behind an append to its terms. -/
theorem Tabl.grown {w w4 : World} {T B M c : Nat} {ids : List Nat} {terms : List (List UInt8)} {f : Nat → Nat → Option Nat} {iv tv v' : Value} {tm : List UInt8} (h : Tabl w T B ids terms M c f iv tv) (o : Obj)
    (hown : w4.ownsRow B 9 1 v' (terms.length + 1) (strV terms ++ [Value.string ⟨tm.toArray⟩])) (hg : (w.alloc o).grownBy w4 tv.ownBlock) :
    Tabl (w4.setCell ⟨T, 1, none⟩ v') T B ids (terms ++ [tm]) M c f iv v' ∧ w4.heap[T]? = some (.cells #[iv, tv, .map (some M)] 316 (0, 0)) := by
  have hTt := owns_ne h.terms h.blk (by decide)
  have k4 : Kp tv.ownBlock.toList w w4 := ((Kp.refl _ _).alloc o).grown hg (fun k hk => .inl (by simp [hk]))
  have hT4 : w4.heap[T]? = some (.cells #[iv, tv, .map (some M)] 316 (0, 0)) := k4.heap h.blk (fun hx => hTt (by simpa using hx))
  have ks : Kp [T] w4 (w4.setCell ⟨T, 1, none⟩ v') := (Kp.refl _ _).setCell (.inl (by simp)) _
  have hidt : ∀ g, iv.ownBlock = some g → g ∉ tv.ownBlock.toList := by
    intro g hg' hx
    have hx' : tv.ownBlock = some g := by simpa using hx
    rcases h.ids.2 with ⟨rfl, _⟩ | ⟨g', cap, cur, rfl, hb, hgg, rest⟩
    · simp [Value.ownBlock] at hg'
    · simp [Value.ownBlock] at hg'
      subst hg'
      exact owns_ne h.terms hgg (by decide) hx'
  have hi4 := k4.owns h.ids hidt
  have hm4 := h.map.kp k4 (fun hx => owns_ne_map h.terms h.map (by simpa using hx))
  refine ⟨⟨?_, ks.owns hi4 (fun g hg' hx => ?_), ?_, hm4.kp ks (by simpa using map_ne h.map h.blk), h.leT, h.leM⟩, hT4⟩
  · have e := heap_setCell_same w4 T 1 _ 316 v' hT4
    rw [e]; rfl
  · simp at hx; subst hx
    exact owns_ne hi4 hT4 (by decide) hg'
  · rw [strV_one, List.length_append]
    refine ks.owns hown (fun g hg' hx => ?_)
    simp at hx; subst hx
    exact owns_ne hown hT4 (by decide) hg'

set_option maxHeartbeats 2000000 in
set_option maxRecDepth 100000 in
/-- The rounds over a term's docs. -/
theorem term_rd (R B T M c : Nat) (ids : List Nat) (terms : List (List UInt8)) (f : Nat → Nat → Option Nat) (iv tv : Value) (st : Option (List UInt8)) (w : World) (h : Rd w R B st) (ht : Tabl w T B ids terms M c f iv tv) (hN : ids.length ≤ 60) (h1 : terms.length ≤ 90000) (hc : c ≤ 400000000) (hBw : B ≤ w.heap.size) :
    Calls Tryz.prog 367 #[.pointer (some ⟨R, 0, none⟩), .pointer (some ⟨T, 0, none⟩)] w fun e w' => ∃ tv',
      e = .returned (.tuple #[]) ∧ Rd w' R B (termF ids.length (terms, c, f, st)).2.2.2 ∧ Tabl w' T B ids (termF ids.length (terms, c, f, st)).1 M (termF ids.length (terms, c, f, st)).2.1 (termF ids.length (terms, c, f, st)).2.2.1 iv tv' ∧ Kb 9 [R, T, M] B w w' := by
  obtain ⟨i0, hi, hz0, hz1, hz2⟩ := info_parts Tryz.info9
  unfold termF
  simp only
  have hRB := h.le
  obtain ⟨x0, y0, hb⟩ := h.block
  have hRT : R ≠ T := by
    rintro rfl
    have := ht.blk; rw [hb] at this; simp at this
  have hRw := heap_lt hb
  have hTw := heap_lt ht.blk
  have hMR := map_ne ht.map hb
  have hMT := map_ne ht.map ht.blk
  have hMw := ht.map.lt
  have hn1 := number_rd R B st 1 8 w h (by omega)
  have hn8 := numF_le st 1 8
  rw [show ((8 : Nat) : Int) = 8 from rfl] at hn8
  unfold stTerm
  obtain ⟨n1, s1, hE1⟩ : ∃ n s, numF st 1 8 = (n, s) := ⟨_, _, rfl⟩
  rw [hE1] at hn1 hn8 ⊢
  simp only at hn1 hn8 ⊢
  have ht1 := fun w' (h' : Rd w' R B s1) => text_rd R B s1 n1 w' h' (by omega)
  obtain ⟨tm, s2, hE2⟩ : ∃ t s, textF s1 n1 = (t, s) := ⟨_, _, rfl⟩
  have htl : tm.length ≤ 2000000 := by
    have : tm = (textF s1 n1).1 := by rw [hE2]
    rw [this]; unfold textF
    cases s1 with
    | none => simp
    | some l => simp only; split <;> simp; omega
  rw [hE2] at ht1 ⊢
  simp only at ht1 ⊢
  have his := fun w' => is_any ⟨tm.toArray⟩ w' (by show tm.toArray.size ≤ _; simpa using htl)
  obtain ⟨b1, hb1⟩ : ∃ b, isWord tm = b := ⟨_, rfl⟩
  obtain ⟨b2, hb2⟩ : ∃ b, isNextF terms tm = b := ⟨_, rfl⟩
  obtain ⟨s3, hs3⟩ : ∃ s3, (if (isWord tm && isNextF terms tm) = true then s2 else none) = s3 := ⟨_, rfl⟩
  rw [hs3]
  rw [hb1, hb2] at hs3
  have hn2 := fun w' (h' : Rd w' R B s3) => number_rd R B s3 1 ids.length w' h' (by omega)
  have hnN := numF_le s3 1 ids.length
  obtain ⟨n2, s4, hE4⟩ : ∃ n s, numF s3 1 ids.length = (n, s) := ⟨_, _, rfl⟩
  rw [hE4] at hn2 hnN ⊢
  simp only at hn2 hnN ⊢
  have hdc := docN_c terms.length ids.length (0, c, f, s4)
  have hdl := docN_le terms.length ids.length (0, c, f, s4) rfl
  simp only at hdc
  have hnx := fun w' (h' : Tabl w' T B ids terms M c f iv tv) => next_tb T B M c ids terms f iv tv tm w' h' (by omega)
  rw [hb2] at hnx
  have hisb : ∀ w', Calls Tryz.prog 416 #[.string ⟨tm.toArray⟩] w' fun e w'_1 => e = .returned (.bool b1) ∧ w'_1 = w' := by
    intro w'
    have := his w'
    simpa [hb1] using this
  have HH := hide h
  have HT := hide ht
  have Hn1 := hide hn1
  have Ht1 := hide ht1
  have His := hide hisb
  have Hnx := hide hnx
  have Hn2 := hide hn2
  have Hs3 := hide hs3
  have Hdc := hide hdc
  have Hdl := hide hdl
  clear h ht hn1 ht1 his hisb hnx hn2 hs3 hdc hdl hE1 hE2 hE4 hb1 hb2 hb x0 y0
  go_enter Tryz.func367, Tryz.ntmps367
  go_wp2_with fail
  refine Hn1.out.mono ?_
  rintro e w1 ⟨rfl, hr1, hk1⟩
  have HR1 := hide hr1
  clear hr1
  go_wp2_with fail
  refine (Ht1.out w1 HR1.out).mono ?_
  rintro e w2 ⟨rfl, hr2, hk2⟩
  have HR2 := hide hr2
  have hk02 := hk1.next hk2
  clear hr2
  have ht2 : Tabl w2 T B ids terms M c f iv tv := HT.out.kp hk02 (HT.out.map.kp hk02 (by simpa using hMR)) (by simpa using hRT.symm) (fun x hx => by simp at hx; subst hx; exact owns_ne HT.out.ids (Classical.choose_spec (Classical.choose_spec HH.out.block)) (by decide)) (fun x hx => by simp at hx; subst hx; exact owns_ne HT.out.terms (Classical.choose_spec (Classical.choose_spec HH.out.block)) (by decide))
  have HT2 := hide ht2
  clear ht2
  go_wp2_with fail
  refine (His.out w2).mono ?_
  rintro e w2' ⟨rfl, rfl⟩
  cases b1
  case' false =>
    go_wp2_with fail
    refine (fail_any R B hRB _ _ w2' (Classical.choose_spec (Classical.choose_spec HR2.out.block))).mono ?_
    rintro e w3 ⟨rfl, hr3, hk3⟩
    have HR3 : Hid (Rd w3 R B s3) := by
      have e := Hs3.out
      simp at e
      rw [← e]; exact hr3
    have hk03 := hk02.next hk3
    clear hr3 hk3
  case' true =>
    have tb1 := (tb_cells HT2.out.blk).2.1
    go_wp2_with fail
    refine (Hnx.out w2' HT2.out).mono ?_
    rintro e w2x ⟨rfl, rfl⟩
    clear tb1
    cases b2
    case' false =>
      go_wp2_with fail
      refine (fail_any R B hRB _ _ w2x (Classical.choose_spec (Classical.choose_spec HR2.out.block))).mono ?_
      rintro e w3 ⟨rfl, hr3, hk3⟩
      have HR3 : Hid (Rd w3 R B s3) := by
        have e := Hs3.out
        simp at e
        rw [← e]; exact hr3
      have hk03 := hk02.next hk3
      clear hr3 hk3
    case' true =>
      obtain ⟨w3, hw3⟩ : ∃ w3, w3 = w2x := ⟨_, rfl⟩
      subst hw3
      have HR3 : Hid (Rd w3 R B s3) := by
        have e := Hs3.out
        simp at e
        rw [← e]; exact HR2.out
      have hk03 := hk02
  all_goals
    have ht3 : Tabl w3 T B ids terms M c f iv tv := HT.out.kp hk03 (HT.out.map.kp hk03 (by simpa using hMR)) (by simpa using hRT.symm) (fun x hx => by simp at hx; subst hx; exact owns_ne HT.out.ids (Classical.choose_spec (Classical.choose_spec HH.out.block)) (by decide)) (fun x hx => by simp at hx; subst hx; exact owns_ne HT.out.terms (Classical.choose_spec (Classical.choose_spec HH.out.block)) (by decide))
    obtain ⟨c0, c1, c2, fz0, fz1, fz2⟩ := tb_cells ht3.blk
    obtain ⟨ai, ci, ei, hai⟩ := owns_forms ht3.ids
    obtain ⟨at', ct, et, hat'⟩ := owns_forms ht3.terms
    have hsz3 := hk03.size
    have HT3 := hide ht3
    have HO3 := hide ht3.terms
    rw [et] at c1 HO3
    rw [ei] at c0
    have hTw3 := heap_lt ht3.blk
    clear ht3 HT2 HR2 HR1
    go_wp2_with (first
      | (at_builtin; refine wpList_append_own_at _ rfl _ _ 67 rfl B 9 i0 (.string ⟨#[]⟩) 1 16 Tryz.underlying67 hi hz0 hz1 hz2 rfl (by decide) _ _ _ rfl (HO3.out.alloc _) ⟨w3.heap.size, 0, none⟩ 1 1 [.string ⟨tm.toArray⟩] rfl rfl (one_new _ _ _) ?c2 ?c3 ?c4 ?c5 ?_)
      | fail)
    case c2 => intro u hu; simp at hu; subst hu; rfl
    case c3 => unfold maxLen; omega
    case c4 => omega
    case c5 => simp; omega
    intro v' w4 hown4 hgrow4 _ hloc
    rw [← et] at hgrow4
    obtain ⟨htb4, hT4⟩ := HT3.out.grown _ hown4 hgrow4
    obtain ⟨av, cv, ev, _⟩ := owns_forms hown4
    subst ev
    obtain ⟨d0, d1, d2, gz0, gz1, gz2⟩ := tb_cells hT4
    rw [ei] at d0
    have hsz4 := hgrow4.size
    simp at hsz4
    have kb4 : Kb 9 [R, T, M] B w w4 := (Kb.of_kp hk03 (by simp)).next (((Kb.refl 9 [R, T, M] B w3).alloc _).grown (HT3.out.terms.alloc _) hgrow4)
    have hR4 : Rd w4 R B s3 := HR3.out.kp (((Kp.refl tv.ownBlock.toList w3).alloc _).grown hgrow4 (fun k hk => .inl (by simp [hk]))) (fun hx => owns_ne HT3.out.terms (Classical.choose_spec (Classical.choose_spec HR3.out.block)) (by decide) (by simpa using hx)) (fun x hx => (HT3.out.terms.lt x (by simpa using hx)).1)
    have HTB4 := hide htb4
    have HR4 := hide hR4
    clear htb4 hT4 hown4 hgrow4 hR4 hloc c0 c1 c2 fz0 fz1 fz2
    have hTw4 : T < w4.heap.size := by omega
    go_wp2_with fail
    obtain ⟨W5, hW5⟩ : ∃ W5, (w4.setCell ⟨T, 1, none⟩ (.slice av (terms.length + 1) cv)).alloc (.cells #[.int .i64 0] 452) = W5 := ⟨_, rfl⟩
    rw [hW5]
    have k5 : Kp [T] w4 W5 := by rw [← hW5]; exact ((Kp.refl [T] w4).setCell (.inl (by simp)) _).alloc _
    have hR5 : Rd W5 R B s3 := HR4.out.kp k5 (by simpa using hRT) (by simpa using HT.out.leT)
    have ht5 : Tabl W5 T B ids (terms ++ [tm]) M c f iv (.slice av (terms.length + 1) cv) := by
      have k6 : Kp [] (w4.setCell ⟨T, 1, none⟩ (.slice av (terms.length + 1) cv)) W5 := by rw [← hW5]; exact (Kp.refl _ _).alloc _
      exact HTB4.out.kp k6 (HTB4.out.map.kp k6 (by simp)) (by simp) (by simp) (by simp)
    have hq5 : Ri W5 w4.heap.size 0 := by
      rw [← hW5]
      have := heap_alloc_new (w4.setCell ⟨T, 1, none⟩ (.slice av (terms.length + 1) cv)) (.cells #[.int .i64 0] 452)
      simpa [Ri] using this
    have hsz5 : W5.heap.size = w4.heap.size + 1 := by rw [← hW5]; simp
    have kb5 : Kb 9 [R, T, M] B w W5 := kb4.next (Kb.of_kp k5 (by simp))
    have HR5 := hide hR5
    have HT5 := hide ht5
    have HQ5 := hide hq5
    clear hR5 ht5 hq5 d0 d1 d2 gz0 gz1 gz2 hW5 k5 kb4 HTB4 HR4
    refine (Hn2.out W5 HR5.out).mono ?_
    rintro e w6 ⟨rfl, hr6, hk6⟩
    have ht6 : Tabl w6 T B ids (terms ++ [tm]) M c f iv (.slice av (terms.length + 1) cv) := HT5.out.kp hk6 (HT5.out.map.kp hk6 (by simpa using hMR)) (by simpa using hRT.symm) (fun x hx => by simp at hx; subst hx; exact owns_ne HT5.out.ids (Classical.choose_spec (Classical.choose_spec HR5.out.block)) (by decide)) (fun x hx => by simp at hx; subst hx; exact owns_ne HT5.out.terms (Classical.choose_spec (Classical.choose_spec HR5.out.block)) (by decide))
    have hq6 : Ri w6 w4.heap.size 0 := hk6.heap HQ5.out (by simp; omega)
    have hsz6 := hk6.size
    have kb6 : Kb 9 [R, T, M] B w w6 := kb5.next (Kb.of_kp hk6 (by simp))
    have HR6 := hide hr6
    have HT6 := hide ht6
    have HQ6 := hide hq6
    clear hr6 ht6 hq6 kb5 HR5 HT5 HQ5
    go_wp2_with fail
    go_loopw [41] (fun kv wr => ∃ k : Nat, k ≤ n2 ∧ kv = .int .i64 k ∧ Ri wr w4.heap.size (docN terms.length ids.length (0, c, f, s4) k).1 ∧ Rd wr R B (docN terms.length ids.length (0, c, f, s4) k).2.2.2 ∧ Tabl wr T B ids (terms ++ [tm]) M (docN terms.length ids.length (0, c, f, s4) k).2.1 (docN terms.length ids.length (0, c, f, s4) k).2.2.1 iv (.slice av (terms.length + 1) cv) ∧ w4.heap.size < wr.heap.size ∧ Kb 9 [R, T, M] B w wr) (fun kv _ => n2 - (intOf kv).toNat)
    case atStart => exact ⟨0, by omega, rfl, HQ6.out, HR6.out, HT6.out, by omega, kb6⟩
    case round =>
      clear HR6 HT6 HQ6 kb6
      obtain ⟨k, hk, rfl, hq, hr, htb, hsw, hkb⟩ := hrel
      by_cases hlt : k < n2
      · have hdk : Hid (docN terms.length ids.length (0, c, f, s4) (k + 1) = docStep terms.length ids.length (docN terms.length ids.length (0, c, f, s4) k)) := rfl
        have hck := Hdc.out k
        have hlk := Hdl.out k
        obtain ⟨le, c', f', s', hds⟩ : ∃ le c' f' s', docN terms.length ids.length (0, c, f, s4) k = (le, c', f', s') := ⟨_, _, _, _, rfl⟩
        rw [hds] at hq hr htb hck hlk hdk
        simp only at hq hr htb hck hlk
        unfold docStep at hdk
        simp only at hdk
        have hE := entry_rd R B w4.heap.size s' le ((ids.length : Int) - 1) wr hr hq (by omega) (by omega) (by omega) (by omega)
        have hlt2 := numF_lt s' 0 ((ids.length : Int) - 1 - le)
        obtain ⟨en, s5, hE5⟩ : ∃ n s, numF s' 0 ((ids.length : Int) - 1 - le) = (n, s) := ⟨_, _, rfl⟩
        rw [hE5] at hE hlt2 hdk
        simp only at hE hlt2 hdk
        obtain ⟨b0, b1, b2, _, _, _⟩ := tb_cells htb.blk
        rw [ei] at b0
        have HQ := hide hq
        have HR := hide hr
        have HTB := hide htb
        have HE := hide hE
        clear hq hr htb hE hds hE5
        go_wp2_with fail
        refine HE.out.mono ?_
        rintro e w7 ⟨rfl, hr7, hq7, hk7⟩
        have hnRQ : ∀ x ∈ [R, w4.heap.size], x = R ∨ x = w4.heap.size := by simp
        have hQb : wr.heap[w4.heap.size]? = some (.cells #[.int .i64 le] 452 (0, 0)) := HQ.out
        obtain ⟨xr, yr, hRb⟩ := HR.out.block
        have ht7 : Tabl w7 T B ids (terms ++ [tm]) M c' f' iv (.slice av (terms.length + 1) cv) := HTB.out.kp hk7 (HTB.out.map.kp hk7 (by simp [hMR]; omega)) (by simp [hRT.symm]; omega) (fun x hx => by
            rcases hnRQ x hx with rfl | rfl
            · exact owns_ne HTB.out.ids hRb (by decide)
            · exact owns_ne HTB.out.ids hQb (by decide)) (fun x hx => by
            rcases hnRQ x hx with rfl | rfl
            · exact owns_ne HTB.out.terms hRb (by decide)
            · exact owns_ne HTB.out.terms hQb (by decide))
        have hsz7 := hk7.size
        have HQ7 := hide hq7
        have kb7 : Kb 9 [R, T, M] B w w7 := hkb.trans (S' := [R, w4.heap.size]) (Kb.of_kp hk7 (fun x hx => .inl hx)) (by simp; omega)
        have hP := places_rd R B T M (le + en) c' ids (terms ++ [tm]) f' iv (.slice av (terms.length + 1) cv) s5 w7 hr7 ht7 (by simp) (by simp; omega) (by omega) (by omega) (by omega)
        have etix : (terms ++ [tm]).length - 1 = terms.length := by simp
        rw [etix] at hP
        have HP := hide hP
        clear hr7 hq7 ht7 hP b0 b1 b2
        go_wp2_with fail
        refine HP.out.mono ?_
        rintro e w8 ⟨rfl, hr8, ht8, hk8⟩
        have hq8 : Ri w8 w4.heap.size (le + en + 1) := hk8.heap HQ7.out (by simp; omega)
        have hsz8 := hk8.size
        have HR8 := hide hr8
        have HT8 := hide ht8
        have HQ8 := hide hq8
        clear hr8 ht8 hq8
        go_wp2_with fail
        go_roundw
        case rel =>
          refine ⟨k + 1, by omega, by go_num, ?_, ?_, ?_, by omega, kb7.next (Kb.of_kp hk8 (by simp))⟩
          · rw [hdk.out]; exact HQ8.out
          · rw [hdk.out]; exact HR8.out
          · rw [hdk.out]; exact HT8.out
        case measure => simp [intOf]; omega
      · have ek : k = n2 := by omega
        subst ek
        have HR := hide hr
        have HTB := hide htb
        clear hr htb hq
        go_wp2_with fail
        go_end0
        exact ⟨_, rfl, HR.out, HTB.out, hkb⟩
end Go.Proofs.YtpdoacfiiledcaaGreatDoor.Pak

namespace Go.Proofs.YtpdoacfiiledcaaGreatDoor.Pak
open Go.RowKit Go.Proofs.YtpdoacfiiledcaaGreatDoor Go.Proofs.YtpdoacfiiledcaaGreatDoor.Spl SiftM
set_option linter.unusedVariables false

def lenV : Value → Nat
  | .slice _ n _ => n
  | _ => 0
theorem intV_one (l : List Nat) (x : Nat) : intV (l ++ [x]) = intV l ++ [Value.int .i64 (x : Int)] := by simp [intV]

set_option maxHeartbeats 2000000 in
set_option maxRecDepth 100000 in
theorem row_any (M c doc : Nat) (f : Nat → Nat → Option Nat) (iv tv : Value) (l : List Nat) (w : World) (hm : MapIs w M c f) (hl : ∀ i (h : i < l.length), f doc i = some l[i]) (he : f doc l.length = none) (hl2 : l.length ≤ 1000) (hd : doc ≤ 2000000) (hiv : iv.oneCell' = true) (htv : tv.oneCell' = true) :
    Calls Tryz.prog 360 #[.agg #[iv, tv, .map (some M)], .int .i64 doc] w fun e w' => ∃ v, e = .returned v ∧ w'.ownsRow w.heap.size 3 1 v l.length (intV l) ∧ Kp [] w w' := by
  obtain ⟨i0, hi, hz0, hz1, hz2⟩ := info_parts info3
  have hMw := hm.lt
  have HM := hide hm
  have HL := hide hl
  have HE := hide he
  clear hm hl he
  go_enter Tryz.func360, Tryz.ntmps360
  go_wp2_with fail
  obtain ⟨W, hW⟩ : ∃ W, w.alloc (.cells #[iv, tv, .map (some M)] 316) = W := ⟨_, rfl⟩
  rw [hW]
  have k0 : Kp [] w W := by rw [← hW]; exact (Kp.refl _ _).alloc _
  have hb0 : W.heap[w.heap.size]? = some (.cells #[iv, tv, .map (some M)] 316 (0, 0)) := by rw [← hW]; exact heap_alloc_new w _
  have hm0 := HM.out.kp k0 (by simp)
  have hsz0 : W.heap.size = w.heap.size + 1 := by rw [← hW]; simp
  have HB0 := hide hb0
  have HM0 := hide hm0
  clear hb0 hm0 hW
  go_loopw [5] (fun lv wr => ∃ (k : Nat) (a : Option Addr) (cap : Nat), k ≤ l.length ∧ lv = .slice a k cap ∧ wr.ownsRow w.heap.size 3 1 (.slice a k cap) k (intV (l.take k)) ∧ wr.heap[w.heap.size]? = some (.cells #[iv, tv, .map (some M)] 316 (0, 0)) ∧ MapIs wr M c f ∧ w.heap.size < wr.heap.size ∧ Kp [] w wr) (fun lv _ => l.length + 1 - lenV lv)
  case atStart => exact ⟨0, _, _, by omega, rfl, World.ownsRow_nil _ _ _ _, HB0.out, HM0.out, by omega, k0⟩
  case round =>
    clear HB0 HM0
    obtain ⟨k, a, cap, hk, rfl, hown, hb, hm, hsz, hkp⟩ := hrel
    obtain ⟨b0, b1, b2, _, _, _⟩ := tb_cells hb
    obtain ⟨x, hlook, hx⟩ := hm.look doc k (by omega) (by omega)
    have HO := hide hown
    have HB := hide hb
    have HMr := hide hm
    clear hown hb hm
    by_cases hlt : k < l.length
    · have hfk := HL.out k hlt
      rw [hfk] at hlook
      have hxk := hx _ hfk
      subst hxk
      simp only [Option.isSome_some] at hlook
      have hsn := hide (take_snocL l k hlt)
      obtain ⟨y, hy⟩ : ∃ y, l[k] = y := ⟨_, rfl⟩
      rw [hy] at hlook hsn
      clear hx hfk hy
      go_wp2_with (first
        | (at_builtin; refine wpList_append_own_at _ rfl _ _ 24 rfl w.heap.size 3 i0 (.int .i64 0) 1 8 Tryz.underlying24 hi hz0 hz1 hz2 rfl (by decide) _ _ _ rfl (HO.out.alloc _) ⟨wr.heap.size, 0, none⟩ 1 1 [.int .i64 (y : Int)] rfl rfl (one_new _ _ _) (one_cell _ _) ?c3 ?c4 ?c5 ?_)
        | fail)
      case c3 => unfold maxLen; omega
      case c4 => omega
      case c5 => simp; omega
      intro v' w2 hown2 hgrow _ _
      have hgrow' := hgrow
      obtain ⟨a', cap', rfl, _⟩ := owns_forms hown2
      have hwne := owns_ne HO.out HB.out (by decide)
      have hmne := owns_ne_map HO.out HMr.out
      have k2 : Kp (Value.slice a k cap).ownBlock.toList wr w2 := ((Kp.refl _ _).alloc _).grown hgrow (fun j hj => .inl (by simp [hj]))
      have hb2 := k2.heap HB.out (fun hx => hwne (by simpa using hx))
      have hm2 := HMr.out.kp k2 (fun hx => hmne (by simpa using hx))
      have hsz2 := k2.size
      have kp2 : Kp [] w w2 := hkp.trans k2 (fun x hx => .inr (HO.out.lt x (by simpa using hx)).1)
      have HO2 := hide hown2
      have HB2 := hide hb2
      have HM2 := hide hm2
      clear hown2 hb2 hm2 hgrow hgrow' hlook
      go_wp2_with fail
      go_roundw
      case rel =>
        refine ⟨k + 1, a', cap', by omega, rfl, ?_, HB2.out, HM2.out, by omega, kp2⟩
        rw [hsn.out, intV_one]
        exact HO2.out
      case measure => simp [lenV]; omega
    · have ek : k = l.length := by omega
      subst ek
      rw [HE.out] at hlook
      simp only [Option.isSome_none] at hlook
      clear hx
      go_wp2_with fail
      go_ret
      refine ⟨_, rfl, ?_, hkp⟩
      have := HO.out
      rwa [List.take_length] at this
end Go.Proofs.YtpdoacfiiledcaaGreatDoor.Pak

namespace Go.Proofs.YtpdoacfiiledcaaGreatDoor.Pak
open Go.RowKit Go.Proofs.YtpdoacfiiledcaaGreatDoor Go.Proofs.YtpdoacfiiledcaaGreatDoor.Spl SiftM
set_option linter.unusedVariables false

def tx2 (xs : List (Nat × Value)) : List Value := xs.flatMap fun x => [Value.int .i64 (x.1 : Int), x.2]
def z2 : Nat → List Value
  | 0 => []
  | n + 1 => .int .i64 0 :: .slice none 0 0 :: z2 n
def partT (xs : List (Nat × Value)) (n : Nat) : Array Value := (tx2 xs ++ z2 (n - xs.length)).toArray
theorem tx2_len (xs : List (Nat × Value)) : (tx2 xs).length = xs.length * 2 := by
  induction xs with
  | nil => rfl
  | cons x r ih => simp [tx2] at ih ⊢; omega
theorem tx2_snoc (xs : List (Nat × Value)) (x : Nat × Value) : tx2 (xs ++ [x]) = tx2 xs ++ [.int .i64 (x.1 : Int), x.2] := by simp [tx2]
theorem z2_len (n : Nat) : (z2 n).length = n * 2 := by
  induction n with
  | zero => rfl
  | succ n ih => simp [z2, ih]; omega
theorem partT_id (xs : List (Nat × Value)) (n id : Nat) (h : xs.length < n) : (partT xs n).setIfInBounds (xs.length * 2) (.int .i64 (id : Int)) = partT (xs ++ [(id, .slice none 0 0)]) n := by
  unfold partT
  obtain ⟨d, hd⟩ : ∃ d, n - xs.length = d + 1 := ⟨n - xs.length - 1, by omega⟩
  have hd2 : n - (xs ++ [(id, Value.slice none 0 0)]).length = d := by simp; omega
  rw [hd2, hd, List.setIfInBounds_toArray]
  congr 1
  rw [tx2_snoc, List.set_append_right _ _ (by rw [tx2_len]; omega), tx2_len, Nat.sub_self, z2, List.set_cons_zero]
  simp
theorem partT_w (xs : List (Nat × Value)) (n id : Nat) (v0 v : Value) : (partT (xs ++ [(id, v0)]) n).setIfInBounds (xs.length * 2 + 1) v = partT (xs ++ [(id, v)]) n := by
  unfold partT
  have e1 : (xs ++ [(id, v0)]).length = (xs ++ [(id, v)]).length := by simp
  rw [e1, List.setIfInBounds_toArray]
  congr 1
  rw [tx2_snoc, tx2_snoc, List.append_assoc, List.append_assoc, List.set_append_right _ _ (by rw [tx2_len]; omega), tx2_len, show xs.length * 2 + 1 - xs.length * 2 = 1 by omega]
  simp
theorem partT_c0 {w : World} {L n : Nat} {xs : List (Nat × Value)} (h : w.heap[L]? = some (.cells (partT xs n) 226 (0, 0))) (hl : xs.length < n) : w.cell? ⟨L, xs.length * 2, none⟩ = some (.int .i64 0) ∧ w.frozen? ⟨L, xs.length * 2, none⟩ = false := by
  obtain ⟨d, hd⟩ : ∃ d, n - xs.length = d + 1 := ⟨n - xs.length - 1, by omega⟩
  constructor
  · simp only [World.cell?, h]
    unfold partT
    rw [List.getElem?_toArray, List.getElem?_append_right (by rw [tx2_len]; omega), tx2_len, Nat.sub_self, hd]
    rfl
  · simp [World.frozen?, h]
theorem partT_c1 {w : World} {L n id : Nat} {xs : List (Nat × Value)} {v : Value} (h : w.heap[L]? = some (.cells (partT (xs ++ [(id, v)]) n) 226 (0, 0))) : w.cell? ⟨L, xs.length * 2 + 1, none⟩ = some v ∧ w.frozen? ⟨L, xs.length * 2 + 1, none⟩ = false := by
  constructor
  · simp only [World.cell?, h]
    unfold partT
    rw [List.getElem?_toArray, tx2_snoc, List.append_assoc, List.getElem?_append_right (by rw [tx2_len]; omega), tx2_len, show xs.length * 2 + 1 - xs.length * 2 = 1 by omega]
    rfl
  · simp [World.frozen?, h]

theorem info52 : (Tryz.prog.info? 226).map (fun i => (i.zero, i.size, i.bytes)) = some (some (.agg #[.int .i64 0, .slice none 0 0]), 2, 32) := by kernel_rfl
theorem z2_at : ∀ (n i : Nat), i < n * 2 → (z2 n)[i]? = some (if i % 2 = 0 then .int .i64 0 else .slice none 0 0)
  | 0, i, h => by omega
  | n + 1, 0, h => by simp [z2]
  | n + 1, 1, h => by simp [z2]
  | n + 1, i + 2, h => by
    have := z2_at n i (by omega)
    simp only [z2, List.getElem?_cons_succ]
    rw [this]
    congr 2
    simp
theorem made_two (n : Nat) : madeCells #[.int .i64 0, .slice none 0 0] (n * 2) = (z2 n).toArray := by
  apply Array.ext
  · simp [size_madeCells, z2_len]
  · intro i h1 h2
    have h3 : i < n * 2 := by simpa [size_madeCells] using h1
    have h4 := z2_at n i h3
    have h5 : (z2 n).toArray[i]? = some ((z2 n).toArray[i]) := Array.getElem?_eq_getElem h2
    rw [List.getElem?_toArray, h4] at h5
    simp only [Option.some.injEq] at h5
    rw [← h5]
    simp only [madeCells, Array.getElem_map, Array.getElem_range]
    have : i % 2 = 0 ∨ i % 2 = 1 := by omega
    rcases this with e | e <;> simp [e]
theorem make_texts (c : Nat) (w : World) (hc : c ≤ 2000000) : (Instr.makeSlice 78 (.int .i64 c) (.int .i64 c)).run Tryz.prog w = .ok (.slice (some ⟨w.heap.size, 0, none⟩) c c) (w.alloc (.cells (partT [] c) 226)) := by
  obtain ⟨i0, hi, hz0, hz1, hz2⟩ := info_parts info52
  have := run_make (P := Tryz.prog) w 78 226 i0 (.agg #[.int .i64 0, .slice none 0 0]) Tryz.underlying78 hi hz0 .i64 .i64 c c (by omega) (by omega) (by rw [hz2]; omega) (by omega)
  rw [hz1] at this
  simp only [Int.toNat_natCast] at this
  rw [this, show (Value.agg #[.int .i64 0, .slice none 0 0]).cells = #[.int .i64 0, .slice none 0 0] from rfl, made_two]
  simp [partT, tx2]

/-- A list of texts: v holds T; vs: the lists of their words. -/
structure TextsIs (w : World) (base : Nat) (v : Value) (T : List (Nat × List (List UInt8))) (vs : List Value) : Prop where
  len : vs.length = T.length
  row : w.ownsRow base 226 2 v T.length (tx2 ((T.map Prod.fst).zip vs))
  each : ∀ i (h : i < T.length) (h2 : i < vs.length), w.ownsRow base 9 1 vs[i] T[i].2.length (strV T[i].2)
  apart : ∀ i j (hi : i < vs.length) (hj : j < vs.length), i < j → ∀ g, vs[i].ownBlock = some g → vs[j].ownBlock ≠ some g
end Go.Proofs.YtpdoacfiiledcaaGreatDoor.Pak

namespace Go.Proofs.YtpdoacfiiledcaaGreatDoor.Pak
open Go.RowKit Go.Proofs.YtpdoacfiiledcaaGreatDoor Go.Proofs.YtpdoacfiiledcaaGreatDoor.Spl SiftM
set_option linter.unusedVariables false

/-- The map says these rows. -/
structure RowsAre (f : Nat → Nat → Option Nat) (rows : List (List Nat)) (nt : Nat) : Prop where
  at' : ∀ d (h : d < rows.length) i (hi : i < rows[d].length), f d i = some rows[d][i]
  stop : ∀ d (h : d < rows.length), f d rows[d].length = none
  small : ∀ d (h : d < rows.length), rows[d].length ≤ 1000
  lt : ∀ d (h : d < rows.length), ∀ x ∈ rows[d], x < nt
def wordsOf (terms : List (List UInt8)) (r : List Nat) : List (List UInt8) := r.map fun i => terms.getD i []

theorem far_block {w w3 : World} {o o' : Obj} {L : Nat} {row : Option Nat} (hL : w.heap[L]? = some o) (hg : ((w.alloc o').drew).grownBy w3 row) (hne : row ≠ some L) : w3.heap[L]? = some o := by
  rw [hg.block L (by have := heap_lt hL; simp; omega) (fun e => hne e.symm)]
  show (w.alloc o').heap[L]? = _
  rw [Below.heap_alloc _ _ _ (heap_lt hL)]; exact hL

theorem pr_cells {w : World} {X t : Nat} {a b : Value} (h : w.heap[X]? = some (.cells #[a, b] t (0, 0))) : w.cell? ⟨X, 0, none⟩ = some a ∧ w.cell? ⟨X, 1, none⟩ = some b ∧ w.frozen? ⟨X, 0, none⟩ = false ∧ w.frozen? ⟨X, 1, none⟩ = false := by
  refine ⟨?_, ?_, ?_, ?_⟩ <;> simp [World.cell?, World.frozen?, h]

set_option maxHeartbeats 2000000 in
set_option maxRecDepth 100000 in
theorem text_any (M c B d : Nat) (f : Nat → Nat → Option Nat) (iv tv : Value) (ids : List Nat) (terms : List (List UInt8)) (rows : List (List Nat)) (w : World) (hm : MapIs w M c f) (hi : w.ownsRow B 3 1 iv ids.length (intV ids)) (ht : w.ownsRow B 9 1 tv terms.length (strV terms)) (hr : RowsAre f rows terms.length) (hlen : rows.length = ids.length) (hn : ids.length ≤ 60) (hnt : terms.length ≤ 100000) (hdi : d < ids.length) (hdr : d < rows.length) :
    Calls Tryz.prog 347 #[.agg #[iv, tv, .map (some M)], .int .i64 d] w fun e w' => ∃ v, e = .returned (.agg #[.int .i64 (ids[d] : Int), v]) ∧ w'.ownsRow w.heap.size 9 1 v (wordsOf terms rows[d]).length (strV (wordsOf terms rows[d])) ∧ Kp [] w w' := by
  obtain ⟨i0, hii, hz0, hz1, hz2⟩ := info_parts Tryz.info9
  obtain ⟨ai, ci, rfl, hai⟩ := owns_forms hi
  obtain ⟨at', ct, rfl, hat⟩ := owns_forms ht
  obtain ⟨n, hnE⟩ : ∃ n, ids.length = n := ⟨_, rfl⟩
  obtain ⟨nt, hntE⟩ : ∃ nt, terms.length = nt := ⟨_, rfl⟩
  have hdn : d < n := by omega
  obtain ⟨gi, rfl⟩ := hai (by omega)
  have hci := ints_cells hi rfl d hdi
  obtain ⟨id, hid⟩ : ∃ id, ids[d] = id := ⟨_, rfl⟩
  rw [hid] at hci ⊢
  rw [hnE] at hn hai hi ⊢
  have hrl := hr.lt d hdr
  have hrs := hr.small d hdr
  have hra := hr.at' d hdr
  have hrst := hr.stop d hdr
  obtain ⟨r, hrE⟩ : ∃ r, rows[d] = r := ⟨_, rfl⟩
  rw [hrE] at hrl hrs hra hrst ⊢
  rw [hntE] at hnt hat ht hrl ⊢
  have hgil := World.block_lt_of_cell? w _ hci
  have HM := hide hm
  have HI := hide hi
  have HT := hide ht
  have HRL := hide hrl
  have HntE := hide hntE
  have HRA := hide hra
  have HRST := hide hrst
  clear hm hi ht hr hlen hnE hntE hrl hrst hra hrE hid
  go_enter Tryz.func347, Tryz.ntmps347
  go_wp2_with fail
  obtain ⟨W, hW⟩ : ∃ W, ((w.alloc (.cells #[.slice (some ⟨gi, 0, none⟩) n ci, .slice at' nt ct, .map (some M)] 316)).alloc (.cells #[.int .i64 0, .slice none 0 0] 226)).alloc (.cells #[.int .i64 (id : Int), .slice none 0 0] 226) = W := ⟨_, rfl⟩
  rw [hW]
  have k0 : Kp [] w W := by rw [← hW]; exact (((Kp.refl _ _).alloc _).alloc _).alloc _
  have hT0 : W.heap[w.heap.size]? = some (.cells #[.slice (some ⟨gi, 0, none⟩) n ci, .slice at' nt ct, .map (some M)] 316 (0, 0)) := by
    rw [← hW, Below.heap_alloc _ _ _ (by simp; omega), Below.heap_alloc _ _ _ (by simp)]; exact heap_alloc_new w _
  have hR0 : W.heap[w.heap.size + 1]? = some (.cells #[.int .i64 0, .slice none 0 0] 226 (0, 0)) := by
    rw [← hW, Below.heap_alloc _ _ _ (by simp)]
    have := heap_alloc_new (w.alloc (.cells #[.slice (some ⟨gi, 0, none⟩) n ci, .slice at' nt ct, .map (some M)] 316)) (.cells #[.int .i64 0, .slice none 0 0] 226)
    simpa using this
  have hX0 : W.heap[w.heap.size + 2]? = some (.cells #[.int .i64 (id : Int), .slice none 0 0] 226 (0, 0)) := by
    rw [← hW]
    have := heap_alloc_new ((w.alloc (.cells #[.slice (some ⟨gi, 0, none⟩) n ci, .slice at' nt ct, .map (some M)] 316)).alloc (.cells #[.int .i64 0, .slice none 0 0] 226)) (.cells #[.int .i64 (id : Int), .slice none 0 0] 226)
    simpa using this
  have hsz0 : w.heap.size + 3 ≤ W.heap.size := by rw [← hW]; simp
  have hrow := row_any M c d f (.slice (some ⟨gi, 0, none⟩) n ci) (.slice at' nt ct) r W (HM.out.kp k0 (by simp)) HRA.out HRST.out hrs (by omega) rfl rfl
  refine hrow.mono ?_
  rintro e wi ⟨rv, rfl, hrv, hki⟩
  obtain ⟨ar, cr, rfl, har⟩ := owns_forms hrv
  have hXi := hki.heap hX0 (by simp)
  have hRi := hki.heap hR0 (by simp)
  have hTi := hki.heap hT0 (by simp)
  have hk1i : Kp [] w wi := k0.next hki
  have hti := hk1i.owns HT.out (by simp)
  have hszi := hki.size
  have HXi := hide hXi
  have HRi := hide hRi
  have HTi := hide hTi
  have Hti := hide hti
  have HRV := hide hrv
  have htX : Hid ((Value.slice at' nt ct).ownBlock ≠ some (w.heap.size + 2)) := fun e => by have := (HT.out.lt _ e).2; omega
  have hrX : Hid ((Value.slice ar r.length cr).ownBlock ≠ some (w.heap.size + 2)) := owns_ne hrv hXi (by decide)
  clear hXi hTi hti hrv hci hRi hX0 hR0 hT0 hW hrow
  go_wp2_with fail
  go_loopw [18] (fun kv w2 => ∃ (k : Nat) (a : Option Addr) (cap : Nat), k ≤ r.length ∧ kv = .int .i64 k ∧ w2.ownsRow wi.heap.size 9 1 (.slice a k cap) k (strV ((wordsOf terms r).take k)) ∧ w2.heap[w.heap.size + 2]? = some (.cells #[.int .i64 (id : Int), .slice a k cap] 226 (0, 0)) ∧ Kp [w.heap.size + 2] wi w2) (fun kv _ => r.length - (intOf kv).toNat)
  case atStart => exact ⟨0, none, 0, by omega, rfl, World.ownsRow_nil _ _ _ _, HXi.out, Kp.refl _ _⟩
  case round =>
    clear HXi
    obtain ⟨k, a, cap, hk, rfl, hown, hX2, hk2⟩ := hrel
    have hT2 := hk2.heap HTi.out (by simp)
    have hR2 := hk2.heap HRi.out (by simp)
    obtain ⟨b0, b1, b2, _, _, _⟩ := tb_cells hT2
    obtain ⟨x0, x1, y0, y1⟩ := pr_cells hX2
    by_cases hlt2 : k < r.length
    · obtain ⟨gr, rfl⟩ := har (by omega)
      have hrv2 := hk2.owns HRV.out (fun g hg hx => by
        simp at hx; subst hx
        exact hrX.out hg)
      have hcr := ints_cells hrv2 rfl k hlt2
      have hxlt := HRL.out r[k] (List.getElem_mem hlt2)
      obtain ⟨gt, rfl⟩ := hat (by omega)
      have htv2 := hk2.owns Hti.out (fun g hg hx => by simp at hx; subst hx; exact htX.out hg)
      have hct := strs_cells htv2 HntE.out r[k] (by rw [HntE.out]; exact hxlt)
      have hgtl := World.block_lt_of_cell? wr _ hct
      have hgtX : gt ≠ w.heap.size + 2 := fun e => htX.out (by simp [Value.ownBlock, e])
      have hwk : Hid ((wordsOf terms r).take (k + 1) = (wordsOf terms r).take k ++ [terms.getD r[k] []]) := by
        show _ = _
        rw [take_snocL _ k (by simp [wordsOf]; exact hlt2)]
        simp [wordsOf]
      have hxT : r[k] < terms.length := by rw [HntE.out]; exact hxlt
      have htg : terms.getD r[k] [] = terms[r[k]] := by rw [List.getD_eq_getElem?_getD, List.getElem?_eq_getElem]; rfl
      rw [htg] at hwk
      obtain ⟨x, hx⟩ : ∃ x, r[k] = x := ⟨_, rfl⟩
      obtain ⟨tm, htm⟩ : ∃ tm, terms[r[k]] = tm := ⟨_, rfl⟩
      rw [htm] at hct hwk
      rw [hx] at hcr hct hxlt
      have hXn := heap_lt hX2
      have hTn := heap_lt hT2
      have HO := hide hown
      have HX2 := hide hX2
      have hvX := hide (owns_ne hown hX2 (by decide))
      have hvlt : ∀ g, (Value.slice a k cap).ownBlock = some g → wi.heap.size ≤ g := fun g hg => (hown.lt g hg).1
      have hszi2 := hk2.size
      have Hvlt := hide hvlt
      clear hown hX2 hT2 htv2 hrv2 hx htm htg hvlt hxT hR2
      have i3 : (0 : Int) ≤ (x : Int) := by omega
      have i4 : (x : Int) < (nt : Int) := by omega
      go_wp2_with fail
      go_region_law
        (refine step_append_lies _ (by rfl) _ _ _ (by rfl) wi.heap.size 9 i0 _ 1 16 Tryz.underlying67 hii hz0 hz1 hz2 rfl (by omega) (.slice a k cap) k (strV ((wordsOf terms r).take k)) (by rfl) ((HO.out.alloc _).drew)
            ⟨wr.heap.size, 0, none⟩ 1 1 [.string ⟨tm.toArray⟩] (by rfl) (by rfl) (World.news_of_block (cs := #[.string ⟨tm.toArray⟩]) (t := 9) (fr := (0, 0)) (heap_alloc_new wr _)) (by simp [Value.oneCell'])
            (by omega) (by unfold maxLen; omega) (by omega) (by simp; omega) (wr.heap.size + 1) (by simp) ?_; intro gg cap' w3 hown3 hgrow hat3 hlt3; have hX3 := far_block HX2.out hgrow hvX.out; have hf3 := (pr_cells hX3).2.2.2; have hc3 := (pr_cells hX3).2.1)
      all_goals
        have k3 : Kp ((w.heap.size + 2) :: (Value.slice a k cap).ownBlock.toList) wr w3 := (((Kp.refl _ wr).alloc _).drewN 1).grown hgrow (fun j hj => .inl (by simp [hj]))
        have kp3 : Kp [w.heap.size + 2] wi (w3.setCell ⟨w.heap.size + 2, 1, none⟩ (.slice (some ⟨gg, 0, none⟩) (k + 1) cap')) := (hk2.trans k3 (by
          intro y hy
          simp only [List.mem_cons] at hy
          rcases hy with rfl | hy
          · left; simp
          · right; exact Hvlt.out y (by simpa using hy))).setCell (.inl (by simp)) _
        have hX4 : (w3.setCell ⟨w.heap.size + 2, 1, none⟩ (.slice (some ⟨gg, 0, none⟩) (k + 1) cap')).heap[w.heap.size + 2]? = some (.cells #[.int .i64 (id : Int), .slice (some ⟨gg, 0, none⟩) (k + 1) cap'] 226 (0, 0)) := by
          rw [heap_setCell_same w3 (w.heap.size + 2) 1 _ 226 _ hX3]
          rfl
        have ho4 : (w3.setCell ⟨w.heap.size + 2, 1, none⟩ (.slice (some ⟨gg, 0, none⟩) (k + 1) cap')).ownsRow wi.heap.size 9 1 (.slice (some ⟨gg, 0, none⟩) (k + 1) cap') (k + 1) (strV ((wordsOf terms r).take (k + 1))) := by
          rw [hwk.out, strV_one]
          refine Kp.owns (S := [w.heap.size + 2]) ((Kp.refl _ _).setCell (.inl (by simp)) _) hown3 (fun g hg hx => ?_)
          simp at hx; subst hx
          exact owns_ne hown3 hX3 (by decide) hg
        have HX4 := hide hX4
        have HO4 := hide ho4
        clear hX4 ho4 hX3 hf3 hc3 x0 x1 y0 y1 b0 b1 b2 hct hcr i3 i4
        go_wp2_with fail
        go_roundw
        case rel => exact ⟨k + 1, _, _, by omega, by go_num, HO4.out, HX4.out, kp3⟩
        case measure => simp [intOf]; omega
    · have ek : k = r.length := by omega
      subst ek
      have HO := hide hown
      have HX2 := hide hX2
      have hsz2 := hk2.size
      obtain ⟨r0, r1, s0, s1⟩ := pr_cells hR2
      have HR2 := hide hR2
      clear hown hX2 hT2 hR2 b0 b1 b2
      go_wp2_with fail
      obtain ⟨W9, hW9⟩ : ∃ W9, (wr.setCell ⟨w.heap.size + 1, 0, none⟩ (.int .i64 (id : Int))).setCell ⟨w.heap.size + 1, 1, none⟩ (.slice a r.length cap) = W9 := ⟨_, rfl⟩
      rw [hW9]
      have hR9 : W9.heap[w.heap.size + 1]? = some (.cells #[.int .i64 (id : Int), .slice a r.length cap] 226 (0, 0)) := by
        rw [← hW9, heap_setCell_same _ (w.heap.size + 1) 1 _ 226 _ (heap_setCell_same wr (w.heap.size + 1) 0 _ 226 _ HR2.out)]; rfl
      obtain ⟨e0, e1, _, _⟩ := pr_cells hR9
      have k9 : Kp [w.heap.size + 1] wr W9 := by rw [← hW9]; exact ((Kp.refl _ _).setCell (.inl (by simp)) _).setCell (.inl (by simp)) _
      have hwl : (wordsOf terms r).length = r.length := by simp [wordsOf]
      have hO2 := HO.out
      rw [List.take_of_length_le (by rw [hwl]; omega)] at hO2
      have hO3 := k9.owns hO2 (fun g hg hx => by
        simp at hx; subst hx
        have := (hO2.lt _ hg).1; omega)
      refine bodyPost_ret (v := .agg #[.int .i64 (id : Int), .slice a r.length cap]) (by simp [results, Tryz.results347, go_sem, e0, e1]) rfl ⟨_, rfl, ?_, ?_⟩
      · rw [hwl]
        refine ⟨hO3.1, ?_⟩
        rcases hO3.2 with h' | ⟨g, cp, cur, e1, hb, rest⟩
        · exact .inl h'
        · exact .inr ⟨g, cp, cur, e1, by omega, rest⟩
      · exact (hk1i.trans hk2 (by simp)).trans k9 (by simp)

theorem partT_c01 {w : World} {L n : Nat} {xs : List (Nat × Value)} (h : w.heap[L]? = some (.cells (partT xs n) 226 (0, 0))) (hl : xs.length < n) : w.cell? ⟨L, xs.length * 2 + 1, none⟩ = some (.slice none 0 0) ∧ w.frozen? ⟨L, xs.length * 2 + 1, none⟩ = false := by
  obtain ⟨d, hd⟩ : ∃ d, n - xs.length = d + 1 := ⟨n - xs.length - 1, by omega⟩
  constructor
  · simp only [World.cell?, h]
    unfold partT
    rw [List.getElem?_toArray, List.getElem?_append_right (by rw [tx2_len]; omega), tx2_len, show xs.length * 2 + 1 - xs.length * 2 = 1 by omega, hd]
    rfl
  · simp [World.frozen?, h]

set_option maxHeartbeats 2000000 in
set_option maxRecDepth 100000 in
theorem texts_any (M c B : Nat) (f : Nat → Nat → Option Nat) (iv tv : Value) (ids : List Nat) (terms : List (List UInt8)) (rows : List (List Nat)) (w : World) (hm : MapIs w M c f) (hi : w.ownsRow B 3 1 iv ids.length (intV ids)) (ht : w.ownsRow B 9 1 tv terms.length (strV terms)) (hr : RowsAre f rows terms.length) (hlen : rows.length = ids.length) (hn : ids.length ≤ 60) (hnt : terms.length ≤ 100000) :
    Calls Tryz.prog 262 #[.agg #[iv, tv, .map (some M)]] w fun e w' => ∃ v vs, e = .returned v ∧ TextsIs w' w.heap.size v (ids.zip (rows.map (wordsOf terms))) vs ∧ Kp [] w w' := by
  obtain ⟨i0, hii, hz0, hz1, hz2⟩ := info_parts Tryz.info9
  obtain ⟨ai, ci, rfl, hai⟩ := owns_forms hi
  obtain ⟨at', ct, rfl, hat⟩ := owns_forms ht
  obtain ⟨n, hnE⟩ : ∃ n, ids.length = n := ⟨_, rfl⟩
  obtain ⟨nt, hntE⟩ : ∃ nt, terms.length = nt := ⟨_, rfl⟩
  have hmk := fun w' => make_texts n w' (by omega)
  have HM := hide hm
  have HI := hide hi
  have HT := hide ht
  have HR := hide hr
  have Hlen := hide hlen
  have HnE := hide hnE
  have HntE := hide hntE
  rw [hnE] at hn hai HI ⊢
  rw [hntE] at hnt hat HT HR ⊢
  clear hm hi ht hr hlen hnE hntE
  go_enter Tryz.func262, Tryz.ntmps262
  go_wp2_with fail
  obtain ⟨W, hW⟩ : ∃ W, (w.alloc (.cells #[.slice ai n ci, .slice at' nt ct, .map (some M)] 316)).alloc (.cells (partT [] n) 226) = W := ⟨_, rfl⟩
  rw [hW]
  have k0 : Kp [] w W := by rw [← hW]; exact ((Kp.refl _ _).alloc _).alloc _
  have hT0 : W.heap[w.heap.size]? = some (.cells #[.slice ai n ci, .slice at' nt ct, .map (some M)] 316 (0, 0)) := by
    rw [← hW, Below.heap_alloc _ _ _ (by simp)]; exact heap_alloc_new w _
  have hL0 : W.heap[w.heap.size + 1]? = some (.cells (partT [] n) 226 (0, 0)) := by
    rw [← hW]
    have := heap_alloc_new (w.alloc (.cells #[.slice ai n ci, .slice at' nt ct, .map (some M)] 316)) (.cells (partT [] n) 226)
    simpa using this
  have hsz0 : W.heap.size = w.heap.size + 2 := by rw [← hW]; simp
  have HT0 := hide hT0
  have HL0 := hide hL0
  clear hT0 hL0 hW hmk
  go_loopw [11] (fun dv wr => ∃ (d : Nat) (vs : List Value), d ≤ n ∧ dv = .int .i64 d ∧ vs.length = d ∧ wr.heap[w.heap.size + 1]? = some (.cells (partT ((ids.take d).zip vs) n) 226 (0, 0)) ∧ wr.heap[w.heap.size]? = some (.cells #[.slice ai n ci, .slice at' nt ct, .map (some M)] 316 (0, 0))
      ∧ (∀ i (h : i < vs.length) (h2 : i < rows.length), wr.ownsRow w.heap.size 9 1 vs[i] (wordsOf terms rows[i]).length (strV (wordsOf terms rows[i])))
      ∧ (∀ i j (hi : i < vs.length) (hj : j < vs.length), i < j → ∀ g, vs[i].ownBlock = some g → vs[j].ownBlock ≠ some g) ∧ w.heap.size + 2 ≤ wr.heap.size ∧ Kp [] w wr) (fun dv _ => n - (intOf dv).toNat)
  case atStart => exact ⟨0, [], by omega, rfl, rfl, HL0.out, HT0.out, fun i h => by simp at h, fun i j h => by simp at h, by omega, k0⟩
  case round =>
    clear HT0 HL0 k0
    obtain ⟨d, vs, hd, rfl, hvs, hL, hT, heach, hap, hsz, hkp⟩ := hrel
    by_cases hlt : d < n
    · have hdi : d < ids.length := by rw [HnE.out]; exact hlt
      have hdr : d < rows.length := by rw [Hlen.out]; exact hdi
      have hir := hkp.owns HI.out (by simp)
      have htr := hkp.owns HT.out (by simp)
      have hmr := HM.out.kp hkp (by simp)
      have hxl : ((ids.take d).zip vs).length = d := by simp [hvs]; omega
      obtain ⟨b0, b1, b2, _, _, _⟩ := tb_cells hT
      have htx := text_any M c B d f (.slice ai n ci) (.slice at' nt ct) ids terms rows wr hmr (by rw [HnE.out]; exact hir) (by rw [HntE.out]; exact htr) (by rw [HntE.out]; exact HR.out) Hlen.out (by rw [HnE.out]; exact hn) (by rw [HntE.out]; exact hnt) hdi hdr
      obtain ⟨id, hid⟩ : ∃ id, ids[d] = id := ⟨_, rfl⟩
      obtain ⟨r, hrE⟩ : ∃ r, rows[d] = r := ⟨_, rfl⟩
      rw [hid, hrE] at htx
      have HTX := hide htx
      have HL := hide hL
      have HTT := hide hT
      have HEA := hide heach
      have HAP := hide hap
      have Hid' := hide hid
      have HrE := hide hrE
      have Hvs := hide hvs
      have Hxl := hide hxl
      clear htx hL hT heach hap htr hir hmr hid hrE hvs hxl
      go_wp2_with fail
      refine HTX.out.mono ?_
      rintro e wi ⟨v, rfl, hrv, hki⟩
      have hLi := hki.heap HL.out (by simp)
      have hTi := hki.heap HTT.out (by simp)
      obtain ⟨hc0, hf0⟩ := partT_c0 hLi (by rw [Hxl.out]; exact hlt)
      obtain ⟨hc1, hf1⟩ := partT_c01 hLi (by rw [Hxl.out]; exact hlt)
      rw [Hxl.out] at hc0 hf0 hc1 hf1
      have hszi := hki.size
      obtain ⟨a, cap, rfl, hav⟩ := owns_forms hrv
      have HLi := hide hLi
      have HTi := hide hTi
      have HRV := hide hrv
      clear hLi hTi hrv b0 b1 b2
      have i1 : (0 : Int) ≤ (d : Int) := by omega
      have i2 : (d : Int) < (n : Int) := by omega
      have hwl : (wordsOf terms r).length = r.length := by simp [wordsOf]
      obtain ⟨rl, hrl⟩ : ∃ rl, (wordsOf terms r).length = rl := ⟨_, rfl⟩
      rw [hrl] at HRV ⊢
      have Hrl := hide hrl
      clear hrl hwl
      go_wp2_with fail
      obtain ⟨W9, hW9⟩ : ∃ W9, (wi.setCell ⟨w.heap.size + 1, d * 2, none⟩ (.int .i64 (id : Int))).setCell ⟨w.heap.size + 1, d * 2 + 1, none⟩ (.slice a rl cap) = W9 := ⟨_, rfl⟩
      rw [hW9]
      have k9 : Kp [w.heap.size + 1] wi W9 := by rw [← hW9]; exact ((Kp.refl _ _).setCell (.inl (by simp)) _).setCell (.inl (by simp)) _
      have hL9 : W9.heap[w.heap.size + 1]? = some (.cells (partT ((ids.take d).zip vs ++ [(id, .slice a rl cap)]) n) 226 (0, 0)) := by
        rw [← hW9, heap_setCell_same _ (w.heap.size + 1) (d * 2 + 1) _ 226 _ (heap_setCell_same wi (w.heap.size + 1) (d * 2) _ 226 _ HLi.out)]
        have q1 := partT_id ((ids.take d).zip vs) n id (by rw [Hxl.out]; exact hlt)
        rw [Hxl.out] at q1
        rw [q1]
        have q2 := partT_w ((ids.take d).zip vs) n id (.slice none 0 0) (.slice a rl cap)
        rw [Hxl.out] at q2
        rw [q2]
      have hT9 := k9.heap HTi.out (by simp)
      have HL9 := hide hL9
      have HT9 := hide hT9
      have hs9 := k9.size
      clear hL9 hT9 hW9 hc0 hf0 hc1 hf1
      go_roundw
      case rel =>
        have htk : (ids.take (d + 1)).zip (vs ++ [.slice a rl cap]) = (ids.take d).zip vs ++ [(id, .slice a rl cap)] := by
          rw [take_snocL ids d hdi, Hid'.out, List.zip_append (by simp [Hvs.out]; omega)]
          rfl
        have hnew : (Value.slice a rl cap).ownBlock ≠ some (w.heap.size + 1) := fun e => by have := (HRV.out.lt _ e).1; omega
        have hold : ∀ i (h : i < vs.length) (h2 : i < rows.length), W9.ownsRow w.heap.size 9 1 vs[i] (wordsOf terms rows[i]).length (strV (wordsOf terms rows[i])) := fun i h h2 => by
          have h3 := HEA.out i h h2
          have hne := owns_ne h3 HL.out (by decide)
          exact k9.owns (hki.owns h3 (by simp)) (fun g hg hx => by simp at hx; subst hx; exact hne hg)
        refine ⟨d + 1, vs ++ [.slice a rl cap], by omega, by go_num, by simp [Hvs.out], by rw [htk]; exact HL9.out, HT9.out, ?_, ?_, by omega, ?_⟩
        · intro i h h2
          by_cases e : i < vs.length
          · rw [List.getElem_append_left e]
            exact hold i e h2
          · have ei : i = d := by simp [Hvs.out] at h e; omega
            subst ei
            have hl2 : ((vs ++ [Value.slice a rl cap])[i]) = .slice a rl cap := by
              rw [List.getElem_append_right (by omega)]; simp [Hvs.out]
            rw [hl2]
            simp only [HrE.out]
            rw [Hrl.out]
            have hO3 := k9.owns HRV.out (fun g hg hx => by simp at hx; subst hx; exact hnew hg)
            refine ⟨hO3.1, ?_⟩
            rcases hO3.2 with h' | ⟨g, cp, cur, e1, hb, rest⟩
            · exact .inl h'
            · exact .inr ⟨g, cp, cur, e1, by omega, rest⟩
        · intro i j hi hj hij g hg
          by_cases e : j < vs.length
          · rw [List.getElem_append_left e]
            rw [List.getElem_append_left (by omega)] at hg
            exact HAP.out i j (by omega) e hij g hg
          · have ej : j = vs.length := by simp at hj; omega
            subst ej
            rw [List.getElem_append_left (by omega)] at hg
            have hl2 : ((vs ++ [Value.slice a rl cap])[vs.length]) = .slice a rl cap := by
              rw [List.getElem_append_right (by omega)]; simp
            rw [hl2]
            intro hg2
            have h1 := (HRV.out.lt g hg2).1
            have hirr : i < rows.length := by have := Hvs.out; omega
            have h4 := ((HEA.out i (by omega) hirr).lt g hg).2
            omega
        · exact (hkp.trans hki (by simp)).trans k9 (by simp)
      case measure => simp [intOf]; omega
    · have ed : d = n := by omega
      subst ed
      have HL := hide hL
      have HEA := hide heach
      have HAP := hide hap
      clear hL hT heach hap
      go_wp2_with fail
      go_ret
      have hz : (ids.zip (rows.map (wordsOf terms))).length = d := by simp [Hlen.out, HnE.out]
      refine ⟨_, vs, rfl, ⟨by rw [hvs, hz], ?_, ?_, HAP.out⟩, hkp⟩
      · rw [hz]
        have hid2 : (ids.zip (rows.map (wordsOf terms))).map Prod.fst = ids := List.map_fst_zip (by simp [Hlen.out])
        have htk : ids.take d = ids := List.take_of_length_le (by rw [HnE.out]; omega)
        have hL2 := HL.out
        rw [htk] at hL2
        have hzl : (ids.zip vs).length = d := by simp [HnE.out, hvs]
        rw [hid2]
        refine ⟨by rw [tx2_len, hzl], .inr ⟨w.heap.size + 1, d, _, rfl, by omega, hL2, Nat.le_refl _, by unfold maxLen; omega, ?_, ?_⟩⟩
        · simp [partT, tx2_len, z2_len, hzl]
        · unfold partT
          rw [hzl, Nat.sub_self]
          simp only [z2, List.append_nil]
          rw [List.take_of_length_le (by rw [tx2_len, hzl]; omega)]
      · intro i h h2
        have hir : i < rows.length := by rw [Hlen.out, HnE.out]; omega
        have := HEA.out i h2 hir
        simpa using this
end Go.Proofs.YtpdoacfiiledcaaGreatDoor.Pak
