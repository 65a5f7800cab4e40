import Derived.Test.YtpdoacfiiledcaaGreatDoorV22
import Derived.Test.YtpdoacfiiledcaaGreatDoorV43
import Derived.Test.YtpdoacfiiledcaaGreatDoorV44
import Derived.Test.YtpdoacfiiledcaaGreatDoorV42
set_option linter.unusedVariables false
set_option maxRecDepth 8000
namespace Go.Proofs.YtpdoacfiiledcaaGreatDoor.Pak
open Go.RowKit Go.Proofs.YtpdoacfiiledcaaGreatDoor Go.Proofs.YtpdoacfiiledcaaGreatDoor.Spl SiftM

set_option maxHeartbeats 2000000 in
theorem rsegments_any (X B : Nat) (sv : Value) (L : List RSg) (n : Nat) (w : World) (hs : w.cell? ⟨X, 3, none⟩ = some sv) (hd : w.cell? ⟨X, 18, none⟩ = some (.bool false)) (hL : RSegs w B sv L) (hn : L.length = n) (hb : n ≤ 1000000) :
    Calls Tryz.prog 96 #[.pointer (some ⟨X, 0, none⟩)] w fun e w' => ∃ a c, e = .returned (.tuple #[.slice a n c, .int .i64 0]) ∧ w'.ownsRow w.heap.size 295 6 (.slice a n c) n (sgV L) ∧ Kp [] w w' := by
  obtain ⟨i0, hi0, hz0, hz1, hz2⟩ := info_parts info277
  obtain ⟨ag, cs, rfl, hag⟩ := owns_forms hL.row
  rw [hn] at hs hag
  have HL := hide hL
  have HN := hide hn
  clear hL hn
  go_enter Tryz.func96, Tryz.ntmps96
  go_wp2_with fail
  go_loopw [4, 5] (fun ov iv wr => ∃ (i : Nat) (a : Option Addr) (c : Nat), i ≤ n ∧ iv = .int .i64 i ∧ ov = .slice a i c ∧ wr.ownsRow w.heap.size 295 6 (.slice a i c) i (sgV (L.take i)) ∧ Kp [] w wr) (fun _ iv _ => n - (intOf iv).toNat)
  case atStart => exact ⟨0, none, 0, by omega, rfl, rfl, World.ownsRow_nil _ _ _ _, Kp.refl _ _⟩
  case round =>
    obtain ⟨i, a, c, hi, rfl, rfl, ho, hkp⟩ := hrel
    have hs1 := hkp.cellv hs (by simp)
    have HO := hide ho
    clear ho
    by_cases hlt : i < n
    · obtain ⟨g, rfl⟩ := hag (by omega)
      have hiL : i < L.length := by rw [HN.out]; exact hlt
      have hLr := HL.out.kp0 hkp
      rw [HN.out] at hLr
      obtain ⟨q0, q1⟩ := hLr.cells i hiL
      obtain ⟨hdm, hfin, hnum⟩ := hLr.each _ (List.getElem_mem hiL)
      obtain ⟨s, hsg⟩ : ∃ s, L[i] = s := ⟨_, rfl⟩
      have HT := hide (sgV_take L i hiL)
      rw [hsg] at q0 q1 hdm hfin hnum HT
      obtain ⟨av, cv, ev, hav⟩ := owns_forms hdm.row
      obtain ⟨num, v, T, vs, fl⟩ := s
      simp only at q0 q1 hdm hfin hnum ev hav
      subst ev
      obtain ⟨N, hTN⟩ : ∃ N, T.length = N := ⟨_, rfl⟩
      have hn60 : N ≤ 60 := by rw [← hTN]; exact hfin.len
      rw [hTN] at q1 hdm hav
      obtain ⟨W1, hW1⟩ : ∃ W1, wr.alloc (.cells #[.int .i64 (num : Int), .slice av N cv] 287) = W1 := ⟨_, rfl⟩
      have k1 : Kp [] wr W1 := by rw [← hW1]; exact (Kp.refl _ _).alloc _
      have hB1 : W1.heap[wr.heap.size]? = some (.cells #[.int .i64 (num : Int), .slice av N cv] 287 (0, 0)) := by rw [← hW1]; exact heap_alloc_new wr _
      have b0 : W1.cell? ⟨wr.heap.size, 0, none⟩ = some (.int .i64 (num : Int)) := by simp [World.cell?, hB1]
      have b1 : W1.cell? ⟨wr.heap.size, 1, none⟩ = some (.slice av N cv) := by simp [World.cell?, hB1]
      have HD := hide (hdm.kp0 k1)
      have HF := hide hfin
      have HTN := hide hTN
      have hkW : Kp [] w W1 := hkp.next k1
      have HO1 := hide (k1.owns HO.out (by simp))
      have j1 : (0 : Int) ≤ (i : Int) := by omega
      have j2 : (i : Int) < (n : Int) := by omega
      have hz1' := k1.size
      clear hLr hdm hfin hTN hB1 HO
      go_wp2_with fail
      go_loopw [7, 8] (fun dv kv w2 => ∃ k : Nat, k ≤ N ∧ kv = .int .i64 (k : Int) ∧ dv = .int .i64 (deadN (fl.take k) : Int) ∧ w2 = W1) (fun _ kv _ => N - (intOf kv).toNat)
      case atStart => exact ⟨0, by omega, rfl, by simp [deadN], rfl⟩
      case round =>
        obtain ⟨k, hk, rfl, rfl, hw2⟩ := hrel
        rw [hw2]
        clear hw2
        by_cases hkN : k < N
        · obtain ⟨gd, rfl⟩ := hav (by omega)
          have hkT : k < T.length := by rw [HTN.out]; exact hkN
          have hkv : k < vs.length := by rw [HD.out.len]; exact hkT
          have hkf : k < fl.length := by rw [HD.out.flen]; exact hkT
          obtain ⟨r0, r1, r2⟩ := HD.out.cells k hkT hkv hkf
          have hst := hide (deadN_take fl k hkf)
          have hdl : deadN (fl.take k) ≤ k := Nat.le_trans (deadN_le _) (by simp; omega)
          obtain ⟨bb, hbb⟩ : ∃ bb, fl[k] = bb := ⟨_, rfl⟩
          rw [hbb] at r2 hst
          clear r0 r1
          have l1 : (0 : Int) ≤ (k : Int) := by omega
          have l2 : (k : Int) < (N : Int) := by omega
          cases bb
          · go_wp2_with fail
            go_roundw
            case rel => exact ⟨k + 1, by omega, by go_num, by have := hst.out; simp at this; rw [this], by first | rfl | trivial⟩
            case measure => simp [intOf]; omega
          · go_wp2_with fail
            go_roundw
            case rel => exact ⟨k + 1, by omega, by go_num, by have := hst.out; simp at this; rw [this]; go_num, by first | rfl | trivial⟩
            case measure => simp [intOf]; omega
        · have hkN' : k = N := by omega
          subst hkN'
          have hfN : fl.take k = fl := List.take_of_length_le (by rw [HD.out.flen, HTN.out]; exact Nat.le_refl _)
          rw [hfN]
          have hdl : deadN fl ≤ 60 := Nat.le_trans (deadN_le fl) (by rw [HD.out.flen, HTN.out]; exact hn60)
          have hxt := xterms_any B k (.slice av k cv) T vs W1 (by rw [← HTN.out]; exact (HTN.out ▸ HD.out.docsX)) HTN.out hn60 HF.out.few
          have hal := allW_le T HF.out.few
          rw [HTN.out] at hal
          have l0 : decide ((k : Int) < (k : Int)) = false := by simp
          clear hav
          go_wp2_with fail
          refine hxt.mono ?_
          rintro e w2 ⟨at2, ct2, m, hm, rfl, ht2, k2⟩
          have d0 := k2.cellv b0 (by simp)
          have d1 := k2.cellv b1 (by simp)
          have hst := states_any W1.heap.size m (.slice at2 m ct2) (termsOf T) w2 ht2 hm (by rw [← hm]; omega) (fun t ht => by have := fine_word T HF.out t ht; omega)
          clear hxt
          go_wp2_with fail
          refine hst.mono ?_
          rintro e w3 ⟨rfl, k3⟩
          have e0 := k3.cellv d0 (by simp)
          have e1 := k3.cellv d1 (by simp)
          have k13 : Kp [] W1 w3 := k2.next k3
          have hfl := xfile_any B (.slice av k cv) T vs w3 (HD.out.kp0 k13).docsX HF.out
          clear hst b0 b1 d0 d1
          go_wp2_with fail
          refine hfl.mono ?_
          rintro e w4 ⟨af, cf, nf, hnf, rfl, hf4, k4⟩
          have f0 := k4.cellv e0 (by simp)
          have f1 := k4.cellv e1 (by simp)
          have k14 : Kp [] W1 w4 := k13.next k4
          have kw4 : Kp [] w w4 := hkW.next k14
          have HO4 := hide (k14.owns HO1.out (by simp))
          have hz4 := kw4.size
          have HM := hide hm
          have HNF := hide hnf
          clear hfl e0 e1 hf4 ht2 hm hnf
          go_wp2_with (first
            | (at_builtin; refine wpList_append_own_at _ rfl _ _ 115 rfl w.heap.size 295 i0 (.agg #[.int .i64 0, .int .i64 0, .int .i64 0, .int .i64 0, .int .i64 0, .int .i64 0]) 6 48 Tryz.underlying115 hi0 hz0 hz1 hz2 rfl (by decide) _ _ _ rfl (HO4.out.alloc _) ⟨w4.heap.size, 0, none⟩ 1 1 [.int .i64 (num : Int), .int .i64 (k : Int), .int .i64 (deadN fl : Int), .int .i64 (m : Int), .int .i64 ((St.refSets (termsOf T)).length : Int), .int .i64 (nf : Int)] rfl rfl (World.news_of_block (cs := #[.int .i64 (num : Int), .int .i64 (k : Int), .int .i64 (deadN fl : Int), .int .i64 (m : Int), .int .i64 ((St.refSets (termsOf T)).length : Int), .int .i64 (nf : Int)]) (t := 295) (fr := (0, 0)) (heap_alloc_new _ _)) ?c2 ?c3 ?c4 ?c5 ?_)
            | fail)
          case c2 => intro u hu; simp at hu; rcases hu with rfl | rfl | rfl | rfl | rfl | rfl <;> rfl
          case c3 => unfold maxLen; omega
          case c4 => omega
          case c5 => simp; omega
          intro v5 w5 ho5 hgrow _ _
          obtain ⟨a5, c5, rfl, _⟩ := owns_forms ho5
          have k5 : Kp (Value.slice a i c).ownBlock.toList w4 w5 := ((Kp.refl _ _).alloc _).grown hgrow (fun j hj => .inl (by simp [hj]))
          have kf : Kp [] w w5 := kw4.trans k5 (fun y hy => .inr (HO4.out.lt y (by simpa using hy)).1)
          have HR := hide (show w5.ownsRow w.heap.size 295 6 (.slice a5 (i + 1) c5) (i + 1) (sgV (L.take (i + 1))) by
            rw [HT.out]
            simp only [sgA, HTN.out, HM.out, HNF.out]
            exact ho5)
          clear ho5 hgrow k5 HO4 HT
          go_wp2_with fail
          go_roundw
          case rel => exact ⟨i + 1, a5, c5, by omega, by go_num, rfl, HR.out, kf⟩
          case measure => simp [intOf]; omega
    · have hin : i = n := by omega
      subst hin
      have l0 : decide ((i : Int) < (i : Int)) = false := by simp
      go_wp2_with fail
      go_ret2
      exact ⟨a, c, rfl, by have h9 := HO.out; rw [List.take_of_length_le (by rw [HN.out]; exact Nat.le_refl _)] at h9; exact h9, hkp⟩
end Go.Proofs.YtpdoacfiiledcaaGreatDoor.Pak

set_option linter.unusedVariables false
set_option linter.unusedSimpArgs false
set_option maxRecDepth 100000
namespace Go.Proofs.YtpdoacfiiledcaaGreatDoor.Pak
open Go.RowKit Go.Proofs.YtpdoacfiiledcaaGreatDoor Go.Proofs.YtpdoacfiiledcaaGreatDoor.Spl SiftM

set_option maxHeartbeats 4000000 in
/-- The step that asks for the segments. -/
theorem asked10 (P B K : Nat) (cc : Nat → Nat) (psv sv : Value) (Q : List PrS) (F : List Own.E1) (i : Nat) (hi : i < Q.length) (a b c d : Int) (s : ByteArray) (la : Option Addr) (ln lc : Nat) (na : Option Addr) (nn nc : Nat) (fa : Option Addr) (fn fc : Nat) (w : World) (h : SW w P B K cc psv sv Q F) (hK : K < 1000000) (PlB : B ≤ P) :
    Calls Tryz.prog 46 #[.pointer (some ⟨P, 0, none⟩), opA 10 a b c d s (.slice la ln lc) (.slice na nn nc) (.slice fa fn fc), .pointer (some ⟨Q[i].p, 0, none⟩)] w fun e w' => e = .returned (.bool true) ∧ (∃ c' sv' F', SW w' P B (K + 1) c' psv sv' Q F') ∧ Below B w w' := by
  obtain ⟨W, hW⟩ : ∃ W, w.alloc (.cells (opC 10 a b c d s (.slice la ln lc) (.slice na nn nc) (.slice fa fn fc)) 69) = W := ⟨_, rfl⟩
  have kW : Kp [] w W := by rw [← hW]; exact (Kp.refl _ _).alloc _
  have bW : W.heap[w.heap.size]? = some (.cells (opC 10 a b c d s (.slice la ln lc) (.slice na nn nc) (.slice fa fn fc)) 69 (0, 0)) := by rw [← hW]; exact heap_alloc_new _ _
  have hWD := h.kp0 kW
  have hasks := hWD.asks hi hK
  have hq := hWD.prs i hi
  obtain ⟨o0, o1, o2, o5⟩ := op_cells bW
  obtain ⟨p0, p1⟩ := two_cells hq.blk
  obtain ⟨n, hn⟩ : ∃ n, Q[i].sp.Ps.length = n := ⟨_, rfl⟩
  have hn6 : n ≤ 1000000 := by have := hq.px.cnt; omega
  have hLL : Q[i].sp.abs.L = Q[i].sr.abs.L := by rw [hq.same]; rfl
  have hLn : Q[i].sr.abs.L.length = n := by rw [← hLL, ← hn]; simp [PSt.abs]
  have hLr : Q[i].sr.L.length = n := by rw [← hLn]; simp [RSt.abs]
  have hseg := segments_any Q[i].X B n Q[i].Ox Q[i].sp W hq.px hn hn6
  rw [hLL] at hseg
  obtain ⟨L, hL⟩ : ∃ L, Q[i].sr.abs.L = L := ⟨_, rfl⟩
  rw [hL] at hseg hLn
  have hrs : ∀ w1 : World, Kp [] W w1 → Calls Tryz.prog 96 #[.pointer (some ⟨Q[i].Y, 0, none⟩)] w1 fun e w' => ∃ a c, e = .returned (.tuple #[.slice a n c, .int .i64 0]) ∧ w'.ownsRow w1.heap.size 295 6 (.slice a n c) n (dgV L) ∧ Kp [] w1 w' := by
    intro w1 k1
    have hr1 := hq.ry.kp k1 (by simp)
    obtain ⟨x0, x2, x3, x4, x18, f2, f3, f4⟩ := ix_cells hr1
    have := rsegments_any Q[i].Y B Q[i].sr.sv Q[i].sr.L n w1 x3 x18 hr1.segs hLr hn6
    rw [sg_dg] at this
    rw [show Q[i].sr.L.map RSg.abs = L from hL] at this
    exact this
  have HR := hide hrs
  have HQB := hide hq.blk
  have HWD := hide hWD
  have HH := hide h
  have HKW := hide kW
  have HLN := hide hLn
  clear h hWD hq hasks bW hrs kW hn hLL hLr hL hLn
  unfold opA
  go_enter Tryz.func46, Tryz.ntmps46
  unfold opC at hW
  go_wp2_with fail
  refine hseg.mono ?_
  rintro e w1 ⟨a1, c1, rfl, hv1, k1⟩
  obtain ⟨r0, r1⟩ := two_cells (k1.heap HQB.out (by simp))
  have HV1 := hide hv1
  clear hv1 hseg p0 p1 o0 o1 o2 o5
  go_wp2_with fail
  refine (HR.out w1 k1).mono ?_
  rintro e w2 ⟨a2, c2, rfl, hv2, k2⟩
  have hsame := sameG_any W.heap.size w1.heap.size n c1 c2 a1 a2 L w2 (k2.owns HV1.out (by simp)) hv2 HLN.out hn6
  clear hv2 r0 r1
  go_wp2_with fail
  refine hsame.mono ?_
  rintro e w3 ⟨rfl, k3⟩
  have k23 := k2.next k3
  have k13 := k1.next k23
  have hsg := seg_any P B K n cc psv sv Q F (.slice a1 n c1) (dgV L) W w3 HWD.out hK k13 (k23.owns HV1.out (by simp)) hn6 PlB
  clear hsame
  go_wp2_with fail
  refine hsg.mono ?_
  rintro e w4 ⟨rfl, hfin, hbl⟩
  have HF := hide hfin
  have HB := hide hbl
  clear hsg hfin hbl
  go_wp2_with fail
  go_ret
  refine ⟨rfl, HF.out, ?_⟩
  have hlow := HH.out.low
  have hz := HKW.out.size
  have k03 := HKW.out.next k13
  exact (k03.below hlow (by simp)).trans HB.out
end Go.Proofs.YtpdoacfiiledcaaGreatDoor.Pak

set_option linter.unusedVariables false
set_option linter.unusedSimpArgs false
set_option maxRecDepth 100000
namespace Go.Proofs.YtpdoacfiiledcaaGreatDoor.Pak
open Go.RowKit Go.Proofs.YtpdoacfiiledcaaGreatDoor Go.Proofs.YtpdoacfiiledcaaGreatDoor.Spl SiftM

set_option maxHeartbeats 4000000 in
theorem moved9 (P B K : Nat) (cc : Nat → Nat) (psv sv : Value) (Q : List PrS) (F : List Own.E1) (i : Nat) (hi : i < Q.length) (a b c d : Int) (s : ByteArray) (la : Option Addr) (ln lc : Nat) (na : Option Addr) (nn nc : Nat) (fa : Option Addr) (fn fc : Nat) (w : World) (h : SW w P B K cc psv sv Q F) (hK : K < 1000000) (hs : s.size ≤ 140737488355328) :
    Calls Tryz.prog 47 #[opA 9 a b c d s (.slice la ln lc) (.slice na nn nc) (.slice fa fn fc), .pointer (some ⟨Q[i].p, 0, none⟩)] w fun e w' => e = .returned (.bool true) ∧ (∃ c' Q', SW w' P B (K + 1) c' psv sv Q' F) ∧ Below B w w' := by
  obtain ⟨W, hW⟩ : ∃ W, w.alloc (.cells (opC 9 a b c d s (.slice la ln lc) (.slice na nn nc) (.slice fa fn fc)) 69) = W := ⟨_, rfl⟩
  have kW : Kp [] w W := by rw [← hW]; exact (Kp.refl _ _).alloc _
  have bW : W.heap[w.heap.size]? = some (.cells (opC 9 a b c d s (.slice la ln lc) (.slice na nn nc) (.slice fa fn fc)) 69 (0, 0)) := by rw [← hW]; exact heap_alloc_new _ _
  have hbx : w.heap.size ∉ Q[i].Ox := fun hx => by have := ((h.prs i hi).cx _ hx).2; omega
  have hby : w.heap.size ∉ Q[i].Oy := fun hx => by have := ((h.prs i hi).cy _ hx).2; omega
  have hWD := h.kp0 kW
  have hasks := hWD.asks hi hK
  have hq := hWD.prs i hi
  obtain ⟨o0, o1, o2, o5⟩ := op_cells bW
  obtain ⟨p0, p1⟩ := two_cells hq.blk
  have hadd := Flush_any Q[i].X B Q[i].Ox Q[i].sp W hq.px hWD.tab hWD.pos hasks.2.2.1
  have hsame : decide (Q[i].sp.abs.T = []) = decide (Q[i].sr.abs.T = []) := by rw [hq.same]; simp only [srt_nil]
  rw [hsame, hq.same] at hadd
  obtain ⟨bb, hbb⟩ : ∃ bb, (!decide (Q[i].sr.abs.T = [])) = bb := ⟨_, rfl⟩
  rw [hbb] at hadd
  have HBB := hide hbb
  clear hbb hsame
  have hnd := hq.ry.ids
  have HQ := hide hq
  have HWD := hide hWD
  have HH := hide h
  have HBD := hide bW
  have HND := hide hnd
  have HR2 := hide hasks.2.2.2.2
  have hkw := hide kW
  clear h hWD hq hasks bW hnd kW
  unfold opA
  go_enter Tryz.func47, Tryz.ntmps47
  unfold opC at hW
  go_wp2_with fail
  refine hadd.mono ?_
  rintro e w1 ⟨rfl, sp1, hp1, ha1, _, k1⟩
  obtain ⟨hr1, hb1, hl1⟩ := HWD.out.half hi k1
  have kd1 : Kp [] w1 w1 := Kp.refl _ _
  obtain ⟨e0, e1, e2, e5⟩ := op_cells (kd1.heap (k1.heap HBD.out hbx) (by simp))
  obtain ⟨r0, r1⟩ := two_cells (kd1.heap hb1 (by simp))
  have hradd := rFlush_any Q[i].Y B Q[i].Oy Q[i].sr w1 hr1 (Nat.le_of_lt HR2.out)
  rw [HBB.out] at hradd
  have HP1 := hide hp1
  have HA1 := hide ha1
  have HL1 := hide hl1
  have HKD1 := hide kd1
  have HK1 := hide k1
  clear hp1 ha1 hl1 hr1 hb1 kd1 hadd p0 p1 o0 o1 o2 o5 k1
  go_wp2_with fail
  refine hradd.mono ?_
  rintro e w2 ⟨rfl, sr2, hr2, ha2, k2⟩
  go_wp2_with fail
  go_ret
  have k1d := (HK1.out).next (HKD1.out.mono (by simp))
  have hsz := HKD1.out.size
  have hgx : ∀ g ∈ grow Q[i].Ox W w1, g ∈ grow Q[i].Ox W w1 := fun g hg => hg
  have hro := flush_room Q[i].sr.abs (by have := HQ.out.room; omega)
  have hnx := HQ.out.next
  have hfin := HWD.out.moved hi k1d (HP1.out.kp HKD1.out (by simp)) k2 hr2 (by rw [HA1.out, ha2]; exact srt_flush0 _) (by rw [ha2]; exact hro.1) (by rw [ha2]; omega)
  refine ⟨rfl, hfin, ?_⟩
  have hlow := HH.out.low
  have hz1 := hkw.out.size
  have hz2 := HL1.out.size
  exact ((hkw.out.below hlow (by simp)).trans (HL1.out)).trans (Below.trans (HKD1.out.below (by omega) (by simp)) (HWD.out.below2 hi k2 (by show B ≤ w1.heap.size; omega)))
set_option maxHeartbeats 4000000 in
theorem moved11 (P B K : Nat) (cc : Nat → Nat) (psv sv : Value) (Q : List PrS) (F : List Own.E1) (i : Nat) (hi : i < Q.length) (a b c d : Int) (s : ByteArray) (la : Option Addr) (ln lc : Nat) (na : Option Addr) (nn nc : Nat) (fa : Option Addr) (fn fc : Nat) (w : World) (h : SW w P B K cc psv sv Q F) (hK : K < 1000000) (hs : s.size ≤ 140737488355328) :
    Calls Tryz.prog 47 #[opA 11 a b c d s (.slice la ln lc) (.slice na nn nc) (.slice fa fn fc), .pointer (some ⟨Q[i].p, 0, none⟩)] w fun e w' => e = .returned (.bool true) ∧ (∃ c' Q', SW w' P B (K + 1) c' psv sv Q' F) ∧ Below B w w' := by
  obtain ⟨W, hW⟩ : ∃ W, w.alloc (.cells (opC 11 a b c d s (.slice la ln lc) (.slice na nn nc) (.slice fa fn fc)) 69) = W := ⟨_, rfl⟩
  have kW : Kp [] w W := by rw [← hW]; exact (Kp.refl _ _).alloc _
  have bW : W.heap[w.heap.size]? = some (.cells (opC 11 a b c d s (.slice la ln lc) (.slice na nn nc) (.slice fa fn fc)) 69 (0, 0)) := by rw [← hW]; exact heap_alloc_new _ _
  have hbx : w.heap.size ∉ Q[i].Ox := fun hx => by have := ((h.prs i hi).cx _ hx).2; omega
  have hby : w.heap.size ∉ Q[i].Oy := fun hx => by have := ((h.prs i hi).cy _ hx).2; omega
  have hWD := h.kp0 kW
  have hasks := hWD.asks hi hK
  have hq := hWD.prs i hi
  obtain ⟨o0, o1, o2, o5⟩ := op_cells bW
  obtain ⟨p0, p1⟩ := two_cells hq.blk
  have hadd := open_any Q[i].X B Q[i].Ox Q[i].sp W hq.px hWD.tab hWD.pos hasks.2.2.1
  rw [hq.same, srt_openA] at hadd
  obtain ⟨u, v, huv⟩ : ∃ u v : Int, Q[i].sr.abs.openA = .tuple #[.int .i64 u, .int .i64 v] := by unfold DSt.openA; split <;> exact ⟨_, _, rfl⟩
  rw [huv] at hadd
  have HBB := hide huv
  clear huv
  have hnd := hq.ry.ids
  have HQ := hide hq
  have HWD := hide hWD
  have HH := hide h
  have HBD := hide bW
  have HND := hide hnd
  have HR2 := hide hasks.2.2.2.2
  have hkw := hide kW
  clear h hWD hq hasks bW hnd kW
  unfold opA
  go_enter Tryz.func47, Tryz.ntmps47
  unfold opC at hW
  go_wp2_with fail
  refine hadd.mono ?_
  rintro e w1 ⟨rfl, sp1, hp1, ha1, k1⟩
  obtain ⟨hr1, hb1, hl1⟩ := HWD.out.half hi k1
  have kd1 : Kp [] w1 w1 := Kp.refl _ _
  obtain ⟨e0, e1, e2, e5⟩ := op_cells (kd1.heap (k1.heap HBD.out hbx) (by simp))
  obtain ⟨r0, r1⟩ := two_cells (kd1.heap hb1 (by simp))
  have hradd := ropen_any Q[i].Y B Q[i].Oy Q[i].sr w1 hr1 HR2.out
  rw [HBB.out] at hradd
  have HP1 := hide hp1
  have HA1 := hide ha1
  have HL1 := hide hl1
  have HKD1 := hide kd1
  have HK1 := hide k1
  clear hp1 ha1 hl1 hr1 hb1 kd1 hadd p0 p1 o0 o1 o2 o5 k1
  go_wp2_with fail
  refine hradd.mono ?_
  rintro e w2 ⟨rfl, sr2, hr2, ha2, k2⟩
  go_wp2_with fail
  go_ret
  have k1d := (HK1.out).next (HKD1.out.mono (by simp))
  have hsz := HKD1.out.size
  have hgx : ∀ g ∈ grow Q[i].Ox W w1, g ∈ grow Q[i].Ox W w1 := fun g hg => hg
  have hro := open_room Q[i].sr.abs HQ.out.room
  have hnx := HQ.out.next
  have hfin := HWD.out.moved hi k1d (HP1.out.kp HKD1.out (by simp)) k2 hr2 (by rw [HA1.out, ha2]; exact srt_open _) (by rw [ha2]; exact hro.1) (by rw [ha2]; omega)
  refine ⟨rfl, hfin, ?_⟩
  have hlow := HH.out.low
  have hz1 := hkw.out.size
  have hz2 := HL1.out.size
  exact ((hkw.out.below hlow (by simp)).trans (HL1.out)).trans (Below.trans (HKD1.out.below (by omega) (by simp)) (HWD.out.below2 hi k2 (by show B ≤ w1.heap.size; omega)))
end Go.Proofs.YtpdoacfiiledcaaGreatDoor.Pak

set_option linter.unusedVariables false
set_option linter.unusedSimpArgs false
set_option maxRecDepth 100000
namespace Go.Proofs.YtpdoacfiiledcaaGreatDoor.Pak
open Go.RowKit Go.Proofs.YtpdoacfiiledcaaGreatDoor Go.Proofs.YtpdoacfiiledcaaGreatDoor.Spl SiftM

set_option maxHeartbeats 4000000 in
theorem moved7 (P B K : Nat) (cc : Nat → Nat) (psv sv : Value) (Q : List PrS) (F : List Own.E1) (i : Nat) (hi : i < Q.length) (a b c d : Int) (s : ByteArray) (la : Option Addr) (ln lc : Nat) (na : Option Addr) (nn nc : Nat) (fa : Option Addr) (fn fc : Nat) (w : World) (h : SW w P B K cc psv sv Q F) (hK : K < 1000000) (hs : s.size ≤ 140737488355328) :
    Calls Tryz.prog 47 #[opA 7 a b c d s (.slice la ln lc) (.slice na nn nc) (.slice fa fn fc), .pointer (some ⟨Q[i].p, 0, none⟩)] w fun e w' => e = .returned (.bool true) ∧ (∃ c' Q', SW w' P B (K + 1) c' psv sv Q' F) ∧ Below B w w' := by
  obtain ⟨W, hW⟩ : ∃ W, w.alloc (.cells (opC 7 a b c d s (.slice la ln lc) (.slice na nn nc) (.slice fa fn fc)) 69) = W := ⟨_, rfl⟩
  have kW : Kp [] w W := by rw [← hW]; exact (Kp.refl _ _).alloc _
  have bW : W.heap[w.heap.size]? = some (.cells (opC 7 a b c d s (.slice la ln lc) (.slice na nn nc) (.slice fa fn fc)) 69 (0, 0)) := by rw [← hW]; exact heap_alloc_new _ _
  have kD : Kp [] W W.drew := ⟨rfl, rfl, rfl, Nat.le_refl _, fun _ _ _ => rfl⟩
  have hbx : w.heap.size ∉ Q[i].Ox := fun hx => by have := ((h.prs i hi).cx _ hx).2; omega
  have hby : w.heap.size ∉ Q[i].Oy := fun hx => by have := ((h.prs i hi).cy _ hx).2; omega
  have hWD := h.kp0 (kW.next kD)
  have hasks := hWD.asks hi hK
  have hq := hWD.prs i hi
  obtain ⟨o0, o1, o2, o5⟩ := op_cells bW
  obtain ⟨d0, d1, d2, d5⟩ := op_cells (kD.heap bW (by simp))
  obtain ⟨p0, p1⟩ := two_cells hq.blk
  have hadd := del_any Q[i].X B Q[i].Ox Q[i].sp b W.drew hq.px
  rw [hq.same, srt_delE] at hadd
  have hnd := hq.ry.ids
  have HQ := hide hq
  have HWD := hide hWD
  have HH := hide h
  have HBD := hide (kD.heap bW (by simp))
  obtain ⟨E, hE⟩ : ∃ E, Q[i].sr.abs.delE b = E := ⟨_, rfl⟩
  rw [hE] at hadd
  have HE := hide hE
  have HND := hide hnd
  have HR2 := hide hasks.2.2.2.2
  have hkw := hide (kW.next kD)
  clear h hWD hq hasks bW hE hnd kW kD
  unfold opA
  go_enter Tryz.func47, Tryz.ntmps47
  unfold opC at hW
  go_wp2_with fail
  go_region_with (first
    | (refine hadd.mono ?_
       rintro e w1 ⟨rfl, sp1, hp1, ha1, _, k1⟩)
    | fail)
  all_goals
    obtain ⟨hr1, hb1, hl1⟩ := HWD.out.half hi k1
    have kd1 : Kp [] w1 w1.drew := ⟨rfl, rfl, rfl, Nat.le_refl _, fun _ _ _ => rfl⟩
    obtain ⟨e0, e1, e2, e5⟩ := op_cells (kd1.heap (k1.heap HBD.out hbx) (by simp))
    obtain ⟨r0, r1⟩ := two_cells (kd1.heap hb1 (by simp))
    have hradd := rdel_any Q[i].Y B Q[i].Oy Q[i].sr b w1.drew (hr1.kp kd1 (by simp)) (Nat.le_of_lt HR2.out)
    rw [HE.out] at hradd
    have HP1 := hide hp1
    have HA1 := hide ha1
    have HL1 := hide hl1
    have HKD1 := hide kd1
    have HK1 := hide k1
    clear hp1 ha1 hl1 hr1 hb1 kd1 hadd p0 p1 d0 d1 d2 d5 o0 o1 o2 o5 k1
    go_wp2_with fail
    go_region_with (first
      | (refine hradd.mono ?_
         rintro e w2 ⟨rfl, sr2, hr2, ha2, k2⟩)
      | fail)
    all_goals
      go_wp2_with fail
      go_ret
      have k1d := (HK1.out).next (HKD1.out.mono (by simp))
      have hsz := HKD1.out.size
      have hgx : ∀ g ∈ grow Q[i].Ox W.drew w1, g ∈ grow Q[i].Ox W.drew w1.drew := fun g hg => hg
      have hro := del_room Q[i].sr.abs b HQ.out.room
      have hnx := HQ.out.next
      have hfin := HWD.out.moved hi k1d (HP1.out.kp HKD1.out (by simp)) k2 hr2 (by rw [HA1.out, ha2]; exact srt_del HND.out b) (by rw [ha2]; exact hro.1) (by rw [ha2]; omega)
      refine ⟨rfl, hfin, ?_⟩
      have hlow := HH.out.low
      have hz1 := hkw.out.size
      have hz2 := HL1.out.size
      exact ((hkw.out.below hlow (by simp)).trans (HL1.out)).trans (Below.trans (HKD1.out.below (by omega) (by simp)) (HWD.out.below2 hi k2 (by show B ≤ w1.heap.size; omega)))
end Go.Proofs.YtpdoacfiiledcaaGreatDoor.Pak

set_option linter.unusedVariables false
set_option linter.unusedSimpArgs false
set_option maxRecDepth 100000
namespace Go.Proofs.YtpdoacfiiledcaaGreatDoor.Pak
open Go.RowKit Go.Proofs.YtpdoacfiiledcaaGreatDoor Go.Proofs.YtpdoacfiiledcaaGreatDoor.Spl SiftM

set_option maxHeartbeats 4000000 in
theorem moved6 (P B K : Nat) (cc : Nat → Nat) (psv sv : Value) (Q : List PrS) (F : List Own.E1) (i : Nat) (hi : i < Q.length) (a b c d : Int) (s : ByteArray) (la : Option Addr) (ln lc : Nat) (na : Option Addr) (nn nc : Nat) (fa : Option Addr) (fn fc : Nat) (w : World) (h : SW w P B K cc psv sv Q F) (hK : K < 1000000) (hs : s.size ≤ 140737488355328) :
    Calls Tryz.prog 47 #[opA 6 a b c d s (.slice la ln lc) (.slice na nn nc) (.slice fa fn fc), .pointer (some ⟨Q[i].p, 0, none⟩)] w fun e w' => e = .returned (.bool true) ∧ (∃ c' Q', SW w' P B (K + 1) c' psv sv Q' F) ∧ Below B w w' := by
  obtain ⟨W, hW⟩ : ∃ W, w.alloc (.cells (opC 6 a b c d s (.slice la ln lc) (.slice na nn nc) (.slice fa fn fc)) 69) = W := ⟨_, rfl⟩
  have kW : Kp [] w W := by rw [← hW]; exact (Kp.refl _ _).alloc _
  have bW : W.heap[w.heap.size]? = some (.cells (opC 6 a b c d s (.slice la ln lc) (.slice na nn nc) (.slice fa fn fc)) 69 (0, 0)) := by rw [← hW]; exact heap_alloc_new _ _
  have kD : Kp [] W W.drew := ⟨rfl, rfl, rfl, Nat.le_refl _, fun _ _ _ => rfl⟩
  have hbx : w.heap.size ∉ Q[i].Ox := fun hx => by have := ((h.prs i hi).cx _ hx).2; omega
  have hby : w.heap.size ∉ Q[i].Oy := fun hx => by have := ((h.prs i hi).cy _ hx).2; omega
  have hWD := h.kp0 (kW.next kD)
  have hasks := hWD.asks hi hK
  have hq := hWD.prs i hi
  obtain ⟨o0, o1, o2, o5⟩ := op_cells bW
  obtain ⟨d0, d1, d2, d5⟩ := op_cells (kD.heap bW (by simp))
  obtain ⟨p0, p1⟩ := two_cells hq.blk
  have hadd := add_any Q[i].X B Q[i].Ox Q[i].sp b s W.drew hq.px hasks.1 hasks.2.1 hWD.tab hWD.pos hasks.2.2.1 hasks.2.2.2.1 hs
  rw [hq.same, srt_addE] at hadd
  have hnd := hq.ry.ids
  have HQ := hide hq
  have HWD := hide hWD
  have HH := hide h
  have HBD := hide (kD.heap bW (by simp))
  obtain ⟨E, hE⟩ : ∃ E, Q[i].sr.abs.addE b s = E := ⟨_, rfl⟩
  rw [hE] at hadd
  have HE := hide hE
  have HND := hide hnd
  have HR2 := hide hasks.2.2.2.2
  have hkw := hide (kW.next kD)
  clear h hWD hq hasks bW hE hnd kW kD
  unfold opA
  go_enter Tryz.func47, Tryz.ntmps47
  unfold opC at hW
  go_wp2_with fail
  go_region_with (first
    | (refine hadd.mono ?_
       rintro e w1 ⟨rfl, sp1, hp1, ha1, _, k1⟩)
    | fail)
  all_goals
    obtain ⟨hr1, hb1, hl1⟩ := HWD.out.half hi k1
    have kd1 : Kp [] w1 w1.drew := ⟨rfl, rfl, rfl, Nat.le_refl _, fun _ _ _ => rfl⟩
    obtain ⟨e0, e1, e2, e5⟩ := op_cells (kd1.heap (k1.heap HBD.out hbx) (by simp))
    obtain ⟨r0, r1⟩ := two_cells (kd1.heap hb1 (by simp))
    have hradd := radd_any Q[i].Y B Q[i].Oy Q[i].sr b s w1.drew (hr1.kp kd1 (by simp)) HR2.out hs
    rw [HE.out] at hradd
    have HP1 := hide hp1
    have HA1 := hide ha1
    have HL1 := hide hl1
    have HKD1 := hide kd1
    have HK1 := hide k1
    clear hp1 ha1 hl1 hr1 hb1 kd1 hadd p0 p1 d0 d1 d2 d5 o0 o1 o2 o5 k1
    go_wp2_with fail
    go_region_with (first
      | (refine hradd.mono ?_
         rintro e w2 ⟨rfl, sr2, hr2, ha2, k2⟩)
      | fail)
    all_goals
      go_wp2_with fail
      go_ret
      have k1d := (HK1.out).next (HKD1.out.mono (by simp))
      have hsz := HKD1.out.size
      have hgx : ∀ g ∈ grow Q[i].Ox W.drew w1, g ∈ grow Q[i].Ox W.drew w1.drew := fun g hg => hg
      have hro := add_room Q[i].sr.abs b s HQ.out.room
      have hnx := HQ.out.next
      have hfin := HWD.out.moved hi k1d (HP1.out.kp HKD1.out (by simp)) k2 hr2 (by rw [HA1.out, ha2]; exact srt_add HND.out b s) (by rw [ha2]; exact hro.1) (by rw [ha2]; omega)
      refine ⟨rfl, hfin, ?_⟩
      have hlow := HH.out.low
      have hz1 := hkw.out.size
      have hz2 := HL1.out.size
      exact ((hkw.out.below hlow (by simp)).trans (HL1.out)).trans (Below.trans (HKD1.out.below (by omega) (by simp)) (HWD.out.below2 hi k2 (by show B ≤ w1.heap.size; omega)))
end Go.Proofs.YtpdoacfiiledcaaGreatDoor.Pak

