import Derived.Test.YtpdoacfiiledcaaGreatDoorV17
set_option linter.unusedVariables false
set_option maxRecDepth 4000
namespace Go.Proofs.YtpdoacfiiledcaaGreatDoor.Pak
open Go.RowKit Go.Proofs.YtpdoacfiiledcaaGreatDoor Go.Proofs.YtpdoacfiiledcaaGreatDoor.Spl SiftM

set_option maxHeartbeats 500000 in
set_option maxRecDepth 100000 in
theorem xterm_any (base B N : Nat) (a0 : Option Addr) (c0 n0 : Nat) (u : Value) (l t : List UInt8) (T : List Tx) (vs : List Value) (w : World) (h : w.ownsRow base 5 1 (.slice a0 n0 c0) n0 (byV l)) (hn0 : l.length = n0) (hu : DocsX w B u T vs) (hb : base ≤ w.heap.size)
    (hT : T.length = N) (hN : N ≤ 60) (hok : OkP N 0 (postW T t N)) (ht : t.length ≤ 8) (hws : ∀ x ∈ T, x.2.length ≤ 60) (hl : n0 + 12 * cntP (postW T t N) ≤ 1900000) :
    Calls Tryz.prog 290 #[.slice a0 n0 c0, u, .string ⟨t.toArray⟩] w (Out w base (l ++ termB t (postW T t N))) := by
  obtain ⟨i0, hi, hz0, hz1, hz2⟩ := info_parts info3
  obtain ⟨i5, hi5, hy0, hy1, hy2⟩ := info_parts info5
  obtain ⟨au, cu, rfl, hau⟩ := hu.forms
  rw [hT] at hu hau
  rw [hT]
  have HO := hide h
  have HU := hide hu
  have Hn0 := hide hn0
  have HT := hide hT
  have HOK := hide hok
  have HWS := hide hws
  clear h hu hn0 hT hok hws
  go_enter Tryz.func290, Tryz.ntmps290
  go_wp2_with fail
  go_loopw [7, 8] (fun av iv wr => ∃ (d : Nat) (a : Option Addr) (c m : Nat), d ≤ N ∧ iv = .int .i64 d ∧ av = .slice a m c ∧ (postW T t d).length = m ∧ wr.ownsRow w.heap.size 3 1 (.slice a m c) m (intV ((postW T t d).map Prod.fst)) ∧ Kp [] w wr) (fun _ iv _ => N - (intOf iv).toNat)
  case atStart => exact ⟨0, none, 0, 0, by omega, rfl, rfl, rfl, World.ownsRow_nil _ _ _ _, Kp.refl _ _⟩
  case round =>
    obtain ⟨d, a, c, m, hd, rfl, rfl, hm, ho, hkp⟩ := hrel
    have Hm := hide hm
    have HA := hide ho
    have hml : m ≤ d := by rw [← hm]; exact postW_len T t d
    clear hm ho
    by_cases hlt : d < N
    · obtain ⟨g, rfl⟩ := hau (by omega)
      have hdT : d < T.length := by rw [HT.out]; exact hlt
      have hur := HU.out.kp0 hkp
      have hdv : d < vs.length := by rw [hur.len]; exact hdT
      obtain ⟨q0, q1, bq, q2⟩ := hur.cells d hdT hdv
      have hw := hur.each d hdT hdv
      obtain ⟨aw, cw, ew, _⟩ := owns_forms hw
      rw [ew] at q1 hw
      have hst := postW_step T t d hdT
      have hwl := HWS.out T[d] (List.getElem_mem hdT)
      obtain ⟨ws, hws⟩ : ∃ ws, T[d].2 = ws := ⟨_, rfl⟩
      rw [hws] at q1 hw hst hwl
      have hpl := rplaces_any B _ ws t wr hw (by omega)
      have hgl := (hur.lt g rfl).2
      have HPL := hide hpl
      have HST := hide hst
      clear hpl hur hw ew hst hws q0 q2
      go_wp2_with fail
      refine HPL.out.mono ?_
      rintro e w2 ⟨ap, cp, np, hnp, rfl, hp2, k2⟩
      have hz2' := k2.size
      have hz1' := hkp.size
      have ha2 := k2.owns HA.out (by simp)
      have HA2 := hide ha2
      have kf := hkp.next k2
      by_cases h0 : np = 0
      · have hs : Hid (postW T t (d + 1) = postW T t d) := by
          show _ = _
          rw [HST.out, show plW ws t ws.length = [] from List.eq_nil_of_length_eq_zero (by omega)]
          simp [one]
        subst h0
        clear hp2 ha2 hnp HPL HST k2 q1
        go_wp2_with fail
        go_roundw
        case rel => exact ⟨d + 1, a, c, m, by omega, by go_num, rfl, by rw [hs.out]; exact Hm.out, by rw [hs.out]; exact HA2.out, kf⟩
        case measure => simp [intOf]; omega
      · have hs : Hid (postW T t (d + 1) = postW T t d ++ [(d, plW ws t ws.length)]) := by
          show _ = _
          rw [HST.out]
          unfold one
          rw [if_neg (fun e => h0 (by rw [← hnp, e]; rfl))]
        have hpos : 0 < np := by omega
        clear hp2 ha2 hnp HPL HST k2 q1
        go_wp2_with (first
          | (at_builtin; refine wpList_append_own_at _ rfl _ _ 24 rfl w.heap.size 3 i0 (.int .i64 0) 1 8 Tryz.underlying24 hi hz0 hz1 hz2 rfl (by decide) _ _ _ rfl (HA2.out.alloc _) ⟨w2.heap.size, 0, none⟩ 1 1 [.int .i64 d] rfl rfl (one_new _ _ _) (one_cell _ _) ?c1 ?c2 ?c3 ?_)
          | fail)
        case c1 => unfold maxLen; omega
        case c2 => omega
        case c3 => simp; omega
        intro v3 w3 ho3 hgrow _ _
        obtain ⟨a3, c3, rfl, _⟩ := owns_forms ho3
        have k3 : Kp (Value.slice a m c).ownBlock.toList w2 w3 := ((Kp.refl _ _).alloc _).grown hgrow (fun j hj => .inl (by simp [hj]))
        have kf3 : Kp [] w w3 := kf.trans k3 (fun y hy => .inr (HA2.out.lt y (by simpa using hy)).1)
        have HO3 := hide ho3
        clear ho3 hgrow k3 HA2 HA
        go_wp2_with fail
        go_roundw
        case rel =>
          refine ⟨d + 1, a3, c3, m + 1, by omega, by go_num, rfl, ?_, ?_, kf3⟩
          · rw [hs.out, List.length_append, Hm.out]; rfl
          · rw [hs.out]
            have e : intV ((postW T t d ++ [(d, plW ws t ws.length)]).map Prod.fst) = intV ((postW T t d).map Prod.fst) ++ [.int .i64 (d : Int)] := by simp [intV]
            rw [e]; exact HO3.out
        case measure => simp [intOf]; omega
    · have ed : N = d := by omega
      subst ed
      obtain ⟨P, hP⟩ : ∃ P, postW T t N = P := ⟨_, rfl⟩
      have HPA : Hid (∀ x ∈ P, ∃ h : x.1 < T.length, x.2 = plW T[x.1].2 t T[x.1].2.length) := by
        show ∀ x ∈ P, _
        rw [← hP]; exact postW_at T t N (by rw [HT.out]; exact Nat.le_refl _)
      rw [hP] at Hm HA hl HOK
      have HPe := hide hP
      have HO1 := hide (hkp.owns HO.out (by simp))
      have HU1 := hide (HU.out.kp0 hkp)
      have hz1' := hkp.size
      have hbr : base ≤ wr.heap.size := by omega
      have hkb1 : Kb 5 [] base w wr := Kb.of_kp (S := []) hkp (by simp)
      have HPU := hide (rput_n base a0 c0 n0 l t.length wr HO1.out Hn0.out hbr (by omega) (by omega))
      have hsz : (ByteArray.mk t.toArray).size = t.length := by show t.toArray.size = t.length; simp
      clear HO HU hP hkp
      go_wp2_with fail
      refine HPU.out.mono ?_
      rintro e w2 ⟨a2, c2, n2, hn2, rfl, ho2, k2⟩
      have hz2' := k2.size
      have hl2 : n2 ≤ n0 + 4 := by rw [← hn2, List.length_append, Hn0.out]; have := numB_len t.length; omega
      have HO2 := hide ho2
      have Hn2 := hide hn2
      have HAT2 := hide (k2.owns HA.out (by decide) (by simp))
      have HD2 := hide (HU1.out.kb5 k2)
      have kb2 := hkb1.next k2
      clear ho2 hn2 k2 HA HU1 hkb1 HPU HO1
      go_wp2_with (first
        | (at_builtin; refine Lib.wpList_append_own_string _ rfl _ _ 112 9 rfl base 5 i5 Tryz.underlying112 Tryz.underlying9 hi5 hy0 hy1 hy2 _ _ _ rfl HO2.out ⟨t.toArray⟩ rfl ?c1 ?c2 (show base ≤ w2.heap.size by omega) ?_)
        | fail)
      case c1 => rw [hsz]; unfold maxLen; omega
      case c2 => rw [hsz]; omega
      intro v3 w3 ho3 hgrow _
      obtain ⟨a3, c3, rfl, _⟩ := owns_forms ho3
      have k3 : Kb 5 [] base w2 w3 := (Kb.refl 5 [] base w2).grown HO2.out hgrow
      have hz3' := k3.size
      have ho3' : w3.ownsRow base 5 1 (.slice a3 (n2 + t.length) c3) (n2 + t.length) (byV ((l ++ numB t.length) ++ t)) := by
        rw [byV_append]; exact ho3
      have hn3 : ((l ++ numB t.length) ++ t).length = n2 + t.length := by rw [List.length_append, Hn2.out]
      obtain ⟨n3, hn3E⟩ : ∃ n3, n2 + t.length = n3 := ⟨_, rfl⟩
      rw [hn3E] at ho3' hn3
      rw [hn3E]
      have HPU := hide (rput_n base a3 c3 n3 _ m w3 ho3' hn3 (by omega) (by omega) (by omega))
      have HAT3 := hide (k3.owns HAT2.out (by decide) (by simp))
      have HD3 := hide (HD2.out.kb5 k3)
      have kb3 := kb2.next k3
      have Hn3 := hide hn3
      clear ho3 ho3' hgrow k3 hn3 HAT2 HD2 kb2 HO2
      go_wp2_with fail
      refine HPU.out.mono ?_
      rintro e w4 ⟨a4, c4, n4, hn4, rfl, ho4, k4⟩
      have hz4' := k4.size
      have hl4 : n4 ≤ n3 + 4 := by rw [← hn4, List.length_append, Hn3.out]; have := numB_len m; omega
      obtain ⟨pre, hpre⟩ : ∃ pre, ((l ++ numB t.length) ++ t) ++ numB m = pre := ⟨_, rfl⟩
      have hfin : Hid (l ++ termB t P = pre ++ entB 0 P) := by
        show _ = _
        rw [← hpre]; unfold termB; rw [Hm.out]; simp
      rw [hpre] at ho4 hn4
      have HO4 := hide ho4
      have Hn4 := hide hn4
      have HAT4 := hide (k4.owns HAT3.out (by decide) (by simp))
      have HD4 := hide (HD3.out.kb5 k4)
      have kb4 := kb3.next k4
      clear ho4 hn4 k4 HAT3 HD3 kb3 HPU hpre
      have hprel : n4 ≤ n0 + 24 := by omega
      obtain ⟨H0, hH0⟩ : ∃ H0, w.heap.size = H0 := ⟨_, rfl⟩
      rw [hH0] at HAT4
      have hH0' : base ≤ H0 := by omega
      clear hH0
      have hb4 : base ≤ w4.heap.size := by omega
      go_wp2_with fail
      go_loopw [0, 10] (fun ov iv wr => ∃ (k : Nat) (ao : Option Addr) (co n' : Nat), k ≤ m ∧ iv = .int .i64 k ∧ ov = .slice ao n' co ∧ (pre ++ entB 0 (P.take k)).length = n' ∧ wr.ownsRow base 5 1 (.slice ao n' co) n' (byV (pre ++ entB 0 (P.take k))) ∧ wr.ownsRow H0 3 1 (.slice a m c) m (intV (P.map Prod.fst)) ∧ DocsX wr B (.slice au N cu) T vs ∧ base ≤ wr.heap.size ∧ Kb 5 [] base w wr) (fun _ iv _ => m - (intOf iv).toNat)
      case atStart => exact ⟨0, a4, c4, n4, by omega, rfl, rfl, by simpa [entB] using Hn4.out, by simpa [entB] using HO4.out, HAT4.out, HD4.out, hb4, kb4⟩
      case round =>
        clear HO4 HAT4 HD4 kb4 hb4
        obtain ⟨k, ao, co, n', hk, rfl, rfl, hn', ho', hat, hd, hbase, hkb⟩ := hrel
        by_cases hlt2 : k < m
        · have hkP : k < P.length := by rw [Hm.out]; exact hlt2
          have hca : 0 < m := by omega
          obtain ⟨ga, hga⟩ : ∃ ga, a = some ⟨ga, 0, none⟩ := by
            obtain ⟨x1, x2, x3, x4⟩ := owns_forms hat
            cases x3; exact x4 hca
          have hatc := hat
          rw [hga] at hatc
          have hc := ints_cells hatc (by simp [Hm.out]) k (by simpa using hkP)
          simp only [List.getElem_map] at hc
          have hsp := ent_split P 0 k hkP
          obtain ⟨b1, b2, b3, b4, b5, b6⟩ := ok_at N P 0 k hkP HOK.out
          obtain ⟨hdT, hps⟩ := HPA.out P[k] (List.getElem_mem hkP)
          have hlen := ent_len N (P.take k) 0 (ok_take N P 0 k HOK.out)
          have hct := cntP_take P k
          have hdv : P[k].1 < vs.length := by rw [hd.len]; exact hdT
          obtain ⟨gd, hgd⟩ := hau (by omega)
          have hdc := hd
          rw [hgd] at hdc
          obtain ⟨q0, q1, bq, q2⟩ := hdc.cells P[k].1 hdT hdv
          have hw := hd.each P[k].1 hdT hdv
          obtain ⟨aw, cw, ew, _⟩ := owns_forms hw
          rw [ew] at q1 hw
          have hwl := HWS.out T[P[k].1] (List.getElem_mem hdT)
          have hn'l : n' ≤ 1900100 := by rw [← hn', List.length_append, Hn4.out]; omega
          obtain ⟨ws, hws⟩ : ∃ ws, T[P[k].1].2 = ws := ⟨_, rfl⟩
          rw [hws] at q1 hw hwl hps
          have HPLW := fun w' (k' : Kp [] wr w') => hide (rplaces_any B _ ws t w' (k'.owns hw (by simp)) (by omega))
          rw [← hps] at HPLW
          have hgal := (hatc.lt ga rfl).2
          have hgdl := (hdc.lt gd rfl).2
          obtain ⟨le, hle⟩ : ∃ le, (if k = 0 then 0 else (P.map Prod.fst).getD (k - 1) 0 + 1) = le := ⟨_, rfl⟩
          have hpv : k ≠ 0 → ∃ y, le = y + 1 ∧ wr.cell? ⟨ga, k - 1, none⟩ = some (.int .i64 (y : Int)) := by
            intro h0
            have hk1 : k - 1 < (P.map Prod.fst).length := by rw [List.length_map]; omega
            refine ⟨(P.map Prod.fst)[k - 1], ?_, ints_cells hatc (by simp [Hm.out]) (k - 1) hk1⟩
            rw [← hle, if_neg h0, getD_at _ _ hk1]
          have hz : k = 0 → le = 0 := fun h0 => by rw [← hle, if_pos h0]
          rw [hle] at hsp b1
          obtain ⟨d, hdE⟩ : ∃ d, P[k].1 = d := ⟨_, rfl⟩
          obtain ⟨ps, hpsE⟩ : ∃ ps, P[k].2 = ps := ⟨_, rfl⟩
          rw [hdE] at hc hsp b1 b2 q1
          rw [hpsE] at hsp b3 b4 b5 b6 HPLW
          have hbd : ∀ x ∈ ps, x < 268435456 := fun x hx => by have := b6 x hx; omega
          obtain ⟨dd, hdd⟩ : ∃ dd, d - le = dd := ⟨_, rfl⟩
          rw [hdd] at hsp
          have hddl : dd < 268435456 := by omega
          have HSP := hide hsp
          have HRS := hide b5
          have HBD := hide hbd
          have Hn' := hide hn'
          have HO' := hide ho'
          have HAT := hide hat
          have HD := hide hd
          subst hga
          subst hgd
          have hdN : d < N := b2
          have hnpl : ps.length ≤ 60 := b4
          clear hsp b5 b6 hbd hn' ho' hat hd hatc hdc q0 q2 hps hpsE hdE hws hle hw ew hlen hct hdv hwl
          by_cases h0 : k = 0
          · have hle0 := hz h0
            subst h0
            have hdd0 : dd = d := by rw [← hdd, hle0, Nat.sub_zero]
            subst hdd0
            have HPL := HPLW wr (Kp.refl _ _)
            clear HPLW hpv hz hdd
            go_wp2_with fail
            refine HPL.out.mono ?_
            rintro e w2 ⟨ap, cp, np, hnp, rfl, hp2, k2⟩
            have hz2' : wr.heap.size ≤ w2.heap.size := k2.size
            have hnp60 : np ≤ 60 := by rw [← hnp]; exact hnpl
            have hb2 : base ≤ w2.heap.size := by omega
            have ho2 := k2.owns HO'.out (by simp)
            have hat2 := k2.owns HAT.out (by simp)
            have hd2 := HD.out.kp0 k2
            have kb2 : Kb 5 [] base w w2 := hkb.next (Kb.of_kp (S := []) k2 (by simp))
            have HPU := hide (rput_n base ao co n' _ dd w2 ho2 Hn'.out hb2 (by omega) (by omega))
            have HP2 := hide hp2
            have Hnp := hide hnp
            have HAT2 := hide hat2
            have HD2 := hide hd2
            clear ho2 hp2 hnp hat2 hd2 HPL k2 HO' q1
            go_wp2_with fail
            refine HPU.out.mono ?_
            rintro e w3 ⟨a3, c3, n3, hn3, rfl, ho3, k3⟩
            have hz3' := k3.size
            have hp3 := k3.owns HP2.out (by decide) (by simp)
            have hat3 := k3.owns HAT2.out (by decide) (by simp)
            have hd3 := HD2.out.kb5 k3
            have hl3 : n3 ≤ n' + 4 := by rw [← hn3, List.length_append, Hn'.out]; have := numB_len dd; omega
            have HPU3 := hide (rput_n base a3 c3 n3 _ np w3 ho3 hn3 (by omega) (by omega) (by omega))
            have HP3 := hide hp3
            have HAT3 := hide hat3
            have HD3 := hide hd3
            have Hn3 := hide hn3
            have kb3 := kb2.next k3
            clear ho3 hp3 hat3 hd3 hn3 k3 kb2 HPU HP2 HAT2 HD2
            go_wp2_with fail
            refine HPU3.out.mono ?_
            rintro e w4 ⟨a4, c4, n4, hn4, rfl, ho4, k4⟩
            have hz4' := k4.size
            have hp4 := k4.owns HP3.out (by decide) (by simp)
            have hat4 := k4.owns HAT3.out (by decide) (by simp)
            have hd4 := HD3.out.kb5 k4
            have hl4 : n4 ≤ n3 + 4 := by rw [← hn4, List.length_append, Hn3.out]; have := numB_len np; omega
            have HRI := hide (rrising_n base wr.heap.size a4 ap c4 n4 cp np _ ps w4 ho4 hn4 hp4 Hnp.out (by omega) (by omega) (by omega) HRS.out HBD.out)
            have HAT4 := hide hat4
            have HD4 := hide hd4
            have kb4 := kb3.next k4
            clear ho4 hp4 hat4 hd4 hn4 k4 kb3 HPU3 HP3 HAT3 HD3
            go_wp2_with fail
            refine HRI.out.mono ?_
            rintro e w5 ⟨a5, c5, n5, hn5, rfl, ho5, k5⟩
            have hz5' := k5.size
            have hat5 := k5.owns HAT4.out (by decide) (by simp)
            have hd5 := HD4.out.kb5 k5
            have kb5 := kb4.next k5
            have HO5 := hide ho5
            have Hn5 := hide hn5
            have HAT5 := hide hat5
            have HD5 := hide hd5
            clear ho5 hn5 hat5 hd5 k5 kb4 HRI HAT4 HD4
            have he : Hid ((((pre ++ entB 0 (P.take 0)) ++ numB dd) ++ numB np) ++ riseB 0 ps = pre ++ entB 0 (P.take (0 + 1))) := by
              show _ = _
              rw [HSP.out, Hnp.out]
              simp only [List.append_assoc]
            go_wp2_with fail
            go_roundw
            case rel => exact ⟨0 + 1, a5, c5, n5, by omega, by go_num, rfl, by rw [← he.out]; exact Hn5.out, by rw [← he.out]; exact HO5.out, HAT5.out, HD5.out, by omega, kb5⟩
            case measure => simp [intOf]; omega
          · obtain ⟨y, hy1', hy2'⟩ := hpv h0
            obtain ⟨j, hj⟩ : ∃ j, k = j + 1 := ⟨k - 1, by omega⟩
            subst hj
            rw [Nat.add_sub_cancel] at hy2'
            have hsub : (d : Int) - (y : Int) - 1 = (dd : Int) := by clear hpv hz; omega
            have Hsub := hide hsub
            have HPL := HPLW wr.drew ((Kp.refl _ _).drewN 1)
            have hyd : y + 1 ≤ d := by clear hpv hz; omega
            clear HPLW hpv hz hdd hsub hy1'
            go_wp2_with fail
            go_region
            rw [show (d : Int) - (y : Int) - 1 = (dd : Int) from Hsub.out]
            go_wp2_with fail
            refine HPL.out.mono ?_
            rintro e w2 ⟨ap, cp, np, hnp, rfl, hp2, k2⟩
            have hz2' : wr.heap.size ≤ w2.heap.size := k2.size
            have hnp60 : np ≤ 60 := by rw [← hnp]; exact hnpl
            have hb2 : base ≤ w2.heap.size := by omega
            have ho2 := k2.owns HO'.out.drew (by simp)
            have hat2 := k2.owns HAT.out.drew (by simp)
            have hd2 := HD.out.drew.kp0 k2
            have kb2 : Kb 5 [] base w w2 := (hkb.next (Kb.of_kp (S := []) ((Kp.refl [] wr).drewN 1) (by simp))).next (Kb.of_kp (S := []) k2 (by simp))
            have HPU := hide (rput_n base ao co n' _ dd w2 ho2 Hn'.out hb2 (by omega) (by omega))
            have HP2 := hide hp2
            have Hnp := hide hnp
            have HAT2 := hide hat2
            have HD2 := hide hd2
            clear ho2 hp2 hnp hat2 hd2 HPL k2 HO' q1
            go_wp2_with fail
            refine HPU.out.mono ?_
            rintro e w3 ⟨a3, c3, n3, hn3, rfl, ho3, k3⟩
            have hz3' := k3.size
            have hp3 := k3.owns HP2.out (by decide) (by simp)
            have hat3 := k3.owns HAT2.out (by decide) (by simp)
            have hd3 := HD2.out.kb5 k3
            have hl3 : n3 ≤ n' + 4 := by rw [← hn3, List.length_append, Hn'.out]; have := numB_len dd; omega
            have HPU3 := hide (rput_n base a3 c3 n3 _ np w3 ho3 hn3 (by omega) (by omega) (by omega))
            have HP3 := hide hp3
            have HAT3 := hide hat3
            have HD3 := hide hd3
            have Hn3 := hide hn3
            have kb3 := kb2.next k3
            clear ho3 hp3 hat3 hd3 hn3 k3 kb2 HPU HP2 HAT2 HD2
            go_wp2_with fail
            refine HPU3.out.mono ?_
            rintro e w4 ⟨a4, c4, n4, hn4, rfl, ho4, k4⟩
            have hz4' := k4.size
            have hp4 := k4.owns HP3.out (by decide) (by simp)
            have hat4 := k4.owns HAT3.out (by decide) (by simp)
            have hd4 := HD3.out.kb5 k4
            have hl4 : n4 ≤ n3 + 4 := by rw [← hn4, List.length_append, Hn3.out]; have := numB_len np; omega
            have HRI := hide (rrising_n base wr.heap.size a4 ap c4 n4 cp np _ ps w4 ho4 hn4 hp4 Hnp.out (by omega) (by omega) (by omega) HRS.out HBD.out)
            have HAT4 := hide hat4
            have HD4 := hide hd4
            have kb4 := kb3.next k4
            clear ho4 hp4 hat4 hd4 hn4 k4 kb3 HPU3 HP3 HAT3 HD3
            go_wp2_with fail
            refine HRI.out.mono ?_
            rintro e w5 ⟨a5, c5, n5, hn5, rfl, ho5, k5⟩
            have hz5' := k5.size
            have hat5 := k5.owns HAT4.out (by decide) (by simp)
            have hd5 := HD4.out.kb5 k5
            have kb5 := kb4.next k5
            have HO5 := hide ho5
            have Hn5 := hide hn5
            have HAT5 := hide hat5
            have HD5 := hide hd5
            clear ho5 hn5 hat5 hd5 k5 kb4 HRI HAT4 HD4
            have he : Hid ((((pre ++ entB 0 (P.take (j + 1))) ++ numB dd) ++ numB np) ++ riseB 0 ps = pre ++ entB 0 (P.take ((j + 1) + 1))) := by
              show _ = _
              rw [HSP.out, Hnp.out]
              simp only [List.append_assoc]
            go_wp2_with fail
            go_roundw
            case rel => exact ⟨(j + 1) + 1, a5, c5, n5, by omega, by go_num, rfl, by rw [← he.out]; exact Hn5.out, by rw [← he.out]; exact HO5.out, HAT5.out, HD5.out, by omega, kb5⟩
            case measure => simp [intOf]; omega
        · have ek : m = k := by omega
          subst ek
          rw [show P.take m = P by rw [← Hm.out, List.take_length]] at hn' ho'
          have Hn' := hide hn'
          have HO' := hide ho'
          clear hn' ho' hat hd
          go_wp2_with fail
          go_ret
          refine ⟨ao, co, n', ?_, rfl, ?_, hkb⟩
          · rw [HPe.out, hfin.out]; exact Hn'.out
          · rw [HPe.out, hfin.out]; exact HO'.out
end Go.Proofs.YtpdoacfiiledcaaGreatDoor.Pak

