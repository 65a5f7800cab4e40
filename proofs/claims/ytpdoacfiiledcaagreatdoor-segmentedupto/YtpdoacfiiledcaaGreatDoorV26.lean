import Derived.Test.YtpdoacfiiledcaaGreatDoorV25
set_option linter.unusedVariables false
set_option maxRecDepth 8000
namespace Go.Proofs.YtpdoacfiiledcaaGreatDoor.Pak
open Go.RowKit Go.Proofs.YtpdoacfiiledcaaGreatDoor Go.Proofs.YtpdoacfiiledcaaGreatDoor.Spl SiftM

/-- The docs whose id is another. -/
def flt (id : Nat) (P : List Pr) : List Pr := P.filter fun p => !decide (p.1.1 = id)
theorem flt_take (id : Nat) (P : List Pr) (i : Nat) (h : i < P.length) : flt id (P.take (i + 1)) = flt id (P.take i) ++ (if P[i].1.1 = id then [] else [P[i]]) := by
  unfold flt
  rw [List.take_succ_eq_append_getElem h, List.filter_append]
  by_cases hz : P[i].1.1 = id <;> simp [hz]
theorem flt_len (id : Nat) (P : List Pr) (i : Nat) : (flt id (P.take i)).length ≤ P.length := by
  have h1 : (flt id (P.take i)).length ≤ (P.take i).length := List.length_filter_le _ _
  rw [List.length_take] at h1
  omega
/-- The blocks of the segments' docs. -/
def segB (L : List RSg) : List Nat := L.filterMap fun t => t.v.ownBlock
theorem segB_mem {L : List RSg} {g : Nat} (h : g ∈ segB L) : ∃ t ∈ L, t.v.ownBlock = some g := by
  unfold segB at h
  exact List.mem_filterMap.1 h
theorem RSegs.kpS {S : List Nat} {w w' : World} {base : Nat} {v : Value} {L : List RSg} (h : RSegs w base v L) (k : Kp S w w') (h1 : ∀ x ∈ S, v.ownBlock ≠ some x) (h2 : ∀ t ∈ L, ∀ x ∈ S, t.v.ownBlock ≠ some x) (h3 : ∀ t ∈ L, ∀ u ∈ t.vs, ∀ x ∈ S, u.ownBlock ≠ some x) : RSegs w' base v L :=
  ⟨k.owns h.row (fun g hg hx => h1 g hx hg), fun t ht => ⟨(h.each t ht).1.kp k (h2 t ht) (h3 t ht), (h.each t ht).2⟩⟩
/-- A block of another kind is none of the segments'. -/
theorem RSegs.far {S : List Nat} {w w' : World} {base X : Nat} {v : Value} {L : List RSg} {cs : Array Value} {t : TypeId} {fr : Nat × Nat} (h : RSegs w base v L) (k : Kp [X] w w') (hX : w.heap[X]? = some (.cells cs t fr)) (h1 : (287 : TypeId) ≠ t) (h2 : (266 : TypeId) ≠ t) (h3 : (9 : TypeId) ≠ t) : RSegs w' base v L := by
  refine h.kpS k (fun x hx => ?_) (fun q hq x hx => ?_) (fun q hq u hu x hx => ?_)
  · simp at hx; subst hx
    exact owns_ne_type h.row hX h1
  · simp at hx; subst hx
    exact owns_ne_type (h.each q hq).1.row hX h2
  · simp at hx; subst hx
    obtain ⟨j, hj, rfl⟩ := List.mem_iff_getElem.1 hu
    have hm := (h.each q hq).1
    exact owns_ne_type (hm.each j (by rw [← hm.len]; exact hj) hj) hX h3
theorem row_block {w : World} {base g n m c size : Nat} {e : TypeId} {xs : List Value} (h : w.ownsRow base e size (.slice (some ⟨g, 0, none⟩) m c) n xs) : ∃ cur, w.heap[g]? = some (.cells cur e (0, 0)) := by
  rcases h.2 with ⟨h1, _⟩ | ⟨g', cap, cur, h1, _, hb, _⟩
  · cases h1
  · cases h1; exact ⟨cur, hb⟩
/-- What goes. -/
def goneS (s : RSt) (id : Nat) (lv : Value) : RSt := { s with lv := lv, T := (flt id (s.T.zip s.vs)).map Prod.fst, vs := (flt id (s.T.zip s.vs)).map Prod.snd, L := s.L.map (mark id) }

set_option maxHeartbeats 4000000 in
theorem rgone_any (X B : Nat) (O : List Nat) (s : RSt) (id : Nat) (w : World) (h : RIs w X B O s) (hnx : s.next ≤ 1000000) (hid : id ≤ 1000000) :
    Calls Tryz.prog 209 #[.pointer (some ⟨X, 0, none⟩), .int .i64 (id : Int)] w fun e w' => e = .returned (.tuple #[]) ∧ ∃ lv,
      w'.heap[X]? = some (.cells (ixC (goneS s id lv)) 187 (0, 0)) ∧ w'.ownsRow w.heap.size 266 3 lv (flt id (s.T.zip s.vs)).length (tx3P (flt id (s.T.zip s.vs))) ∧ RSegs w' B s.sv (s.L.map (mark id)) ∧ Kp (X :: segB s.L) w w' := by
  obtain ⟨i0, hi0, hz0, hz1, hz2⟩ := info_parts info148
  obtain ⟨x0, x2, x3, x4, x18, f2, f3, f4⟩ := ix_cells h
  obtain ⟨al, cl, el, hal⟩ := owns_forms h.loose.row
  obtain ⟨ag, cs, eg, hag⟩ := owns_forms h.segs.row
  obtain ⟨N, hN⟩ : ∃ N, s.T.length = N := ⟨_, rfl⟩
  obtain ⟨n, hn⟩ : ∃ n, s.L.length = n := ⟨_, rfl⟩
  rw [hN] at el hal
  rw [hn] at eg hag
  rw [el] at x2
  rw [eg] at x3
  have hN60 : N ≤ 60 := by
    have h1 := h.all60
    have h2 := h.loose.len
    unfold RSt.pairs at h1
    simp at h1
    omega
  have hnb : n ≤ 1000000 := by have := h.cnt; omega
  obtain ⟨P, hP⟩ : ∃ P, s.T.zip s.vs = P := ⟨_, rfl⟩
  have hPl : P.length = N := by rw [← hP]; have := h.loose.len; simp; omega
  have HH := hide h
  have HX := hide h.blk
  have HE := hide el
  have HG := hide eg
  have HN := hide hN
  have Hn := hide hn
  have HP := hide hP
  have HPL := hide hPl
  rw [hP]
  have hdm := h.loose.docsM
  rw [el] at hdm
  have HDM := hide hdm
  clear h x0 x4 x18 f3 f4 hdm hN hn hP el eg hPl
  go_enter Tryz.func209, Tryz.ntmps209
  go_wp2_with fail
  go_loopw [4, 5] (fun ov iv wr => ∃ (i : Nat) (a : Option Addr) (c m : Nat), i ≤ N ∧ iv = .int .i64 (i : Int) ∧ ov = .slice a m c ∧ (flt id (P.take i)).length = m ∧ wr.ownsRow w.heap.size 266 3 (.slice a m c) m (tx3P (flt id (P.take i))) ∧ Kp [] w wr) (fun _ iv _ => N - (intOf iv).toNat)
  case atStart => exact ⟨0, none, 0, 0, by omega, rfl, rfl, rfl, World.ownsRow_nil _ _ _ _, Kp.refl _ _⟩
  case round =>
    obtain ⟨i, a, c, m, hi, rfl, rfl, hm, ho, hkp⟩ := hrel
    have y2 := hkp.cellv x2 (by simp)
    have y3 := hkp.cellv x3 (by simp)
    have HO := hide ho
    have HM := hide hm
    have hm60 : m ≤ 60 := by
      rw [← hm]
      have h1 := flt_len id P i
      have h2 := HPL.out
      omega
    clear ho hm
    by_cases hlt : i < N
    · obtain ⟨g, rfl⟩ := hal (by omega)
      have hd := HDM.out.kp0 hkp
      have hiT : i < s.T.length := by rw [HN.out]; exact hlt
      have hiv : i < s.vs.length := by rw [hd.len]; exact hiT
      have hif : i < (List.replicate s.T.length false).length := by simpa using hiT
      obtain ⟨r0, r1, r2⟩ := hd.cells i hiT hiv hif
      have hiP : i < P.length := by rw [HPL.out]; exact hlt
      have hst := flt_take id P i hiP
      have hpe : P[i] = (s.T[i], s.vs[i]) := by simp [← HP.out]
      rw [hpe] at hst
      have hea := hd.each i hiT hiv
      obtain ⟨aw, cw, ew, _⟩ := owns_forms hea
      rw [ew] at r1 hst
      obtain ⟨tx, htx⟩ : ∃ tx, s.T[i] = tx := ⟨_, rfl⟩
      rw [htx] at r0 r1 hst
      obtain ⟨di, ws⟩ := tx
      simp only [List.getElem_replicate] at r0 r1 r2 hst
      have HST := hide hst
      clear hst hpe hea ew htx hd
      have l1 : (0 : Int) ≤ (i : Int) := by omega
      have l2 : (i : Int) < (N : Int) := by omega
      have hzz := hkp.size
      by_cases heq : di = id
      · subst heq
        go_wp2_with fail
        go_roundw
        case rel => exact ⟨i + 1, a, c, m, by omega, by go_num, rfl, by rw [HST.out]; simpa using HM.out, by rw [HST.out]; simpa using HO.out, hkp⟩
        case measure => simp [intOf]; omega
      · have hne : ((di : Int) == (id : Int)) = false := by rw [beq_eq_false_iff_ne]; omega
        go_wp2_with (first
          | (at_builtin; refine wpList_append_own_at _ rfl _ _ 180 rfl w.heap.size 266 i0 (.agg #[.int .i64 0, .slice none 0 0, .bool false]) 3 40 Tryz.underlying180 hi0 hz0 hz1 hz2 rfl (by decide) _ _ _ rfl (HO.out.alloc _) ⟨wr.heap.size, 0, none⟩ 1 1 [.int .i64 (di : Int), .slice aw ws.length cw, .bool false] rfl rfl (World.news_of_block (cs := #[.int .i64 (di : Int), .slice aw ws.length cw, .bool false]) (t := 266) (fr := (0, 0)) (heap_alloc_new _ _)) ?g2 ?g3 ?g4 ?g5 ?_)
          | fail)
        case g2 => first | exact ⟨rfl, rfl, rfl⟩ | simp [Value.oneCell']
        case g3 => unfold maxLen; omega
        case g4 => omega
        case g5 => first | omega | (simp; omega)
        intro v5 w5 ho5 hgrow _ _
        obtain ⟨a5, c5, rfl, _⟩ := owns_forms ho5
        have k5 : Kp (Value.slice a m c).ownBlock.toList wr w5 := ((Kp.refl _ _).alloc _).grown hgrow (fun j hj => .inl (by simp [hj]))
        have kf : Kp [] w w5 := hkp.trans k5 (fun y hy => .inr (HO.out.lt y (by simpa using hy)).1)
        have HR5 := hide (show w5.ownsRow w.heap.size 266 3 (.slice a5 (m + 1) c5) (m + 1) (tx3P (flt id (P.take (i + 1)))) by
          rw [HST.out, if_neg heq, tx3P_append]
          exact ho5)
        have HM5 := hide (show (flt id (P.take (i + 1))).length = m + 1 by
          rw [HST.out, if_neg heq, List.length_append, HM.out]; rfl)
        clear ho5 hgrow k5 HO HST
        go_wp2_with fail
        go_roundw
        case rel => exact ⟨i + 1, a5, c5, m + 1, by omega, by go_num, rfl, HM5.out, HR5.out, kf⟩
        case measure => simp [intOf]; omega
    · have hin : i = N := by omega
      subst hin
      have hfull : P.take i = P := List.take_of_length_le (by rw [HPL.out]; exact Nat.le_refl _)
      rw [hfull] at HO HM
      have HXr := hide (hkp.heap HX.out (by simp))
      have fr2 : wr.frozen? ⟨X, 2, none⟩ = false := by simp [World.frozen?, HXr.out]
      have l0 : decide ((i : Int) < (i : Int)) = false := by simp
      obtain ⟨W1, hW1⟩ : ∃ W1, wr.setCell ⟨X, 2, none⟩ (.slice a m c) = W1 := ⟨_, rfl⟩
      have hX1 : W1.heap[X]? = some (.cells (ixC { s with lv := .slice a m c }) 187 (0, 0)) := by rw [← hW1, heap_setCell_same wr X 2 _ 187 _ HXr.out, ixC_set2]
      have kX : Kp [X] wr W1 := by rw [← hW1]; exact kp_set wr X 2 _
      have hL1 : RSegs W1 B s.sv s.L := RSegs.far (S := []) ((HH.out.segs).kp0 hkp) kX HXr.out (by decide) (by decide) (by decide)
      have z3 : W1.cell? ⟨X, 3, none⟩ = some (.slice ag n cs) := by
        have := HG.out
        simp [World.cell?, hX1, ixC, ixA, this]
      have kw1 : Kp [X] w W1 := (hkp.mono (by simp)).next kX
      have hrow1 : Hid (W1.ownsRow w.heap.size 266 3 (.slice a m c) m (tx3P (flt id P))) := kX.owns HO.out (fun gg hgg hx => by
        simp at hx; subst hx
        exact owns_ne_type HO.out HXr.out (by decide) hgg)
      have HL1 := hide hL1
      have HX1 := hide hX1
      have hXseg : Hid (X ∉ segB s.L) := fun hx => by
        obtain ⟨t, ht, e⟩ := segB_mem hx
        exact owns_ne_type (HH.out.segs.each t ht).1.row HX.out (by decide) e
      have hrseg : Hid (∀ gg, (Value.slice a m c).ownBlock = some gg → gg ∉ segB s.L) := fun gg hgg hx => by
        obtain ⟨t, ht, e⟩ := segB_mem hx
        have h1 := (HO.out.lt gg hgg).1
        have h2 := ((HH.out.segs.each t ht).1.row.lt gg e).2
        omega
      clear hX1 hL1
      go_wp2_with fail
      try rw [hW1]
      go_loopw [6] (fun iv w2 => ∃ j : Nat, j ≤ n ∧ iv = .int .i64 (j : Int) ∧ RSegs w2 B s.sv (markAt id j 0 s.L) ∧ Kp (segB s.L) W1 w2) (fun iv _ => n - (intOf iv).toNat)
      case atStart => exact ⟨0, by omega, rfl, by rw [markAt_zero]; exact HL1.out, Kp.refl _ _⟩
      case round =>
        obtain ⟨j, hj, rfl, hL2, k2⟩ := hrel
        have u3 := k2.cellv z3 hXseg.out
        have HL2 := hide hL2
        clear hL2
        by_cases hjn : j < n
        · obtain ⟨g, rfl⟩ := hag (by omega)
          have hjL : j < s.L.length := by rw [Hn.out]; exact hjn
          have hdj := (HH.out.segs.each _ (List.getElem_mem hjL)).1
          obtain ⟨av, cv, ev, hav⟩ := owns_forms hdj.row
          obtain ⟨M, hTM⟩ : ∃ M, s.L[j].T.length = M := ⟨_, rfl⟩
          rw [hTM] at ev hav
          have hM60 : M ≤ 60 := by rw [← hTM]; exact (HH.out.segs.each _ (List.getElem_mem hjL)).2.1.len
          have HTM := hide hTM
          have HEV := hide ev
          have j1 : (0 : Int) ≤ (j : Int) := by omega
          have j2 : (j : Int) < (n : Int) := by omega
          clear hdj hTM ev
          go_wp2_with fail
          go_loopw [7] (fun kv w3 => ∃ k : Nat, k ≤ M ∧ kv = .int .i64 (k : Int) ∧ RSegs w3 B s.sv (markAt id j k s.L) ∧ Kp (segB s.L) W1 w3) (fun kv _ => M - (intOf kv).toNat)
          case atStart => exact ⟨0, by omega, rfl, HL2.out, k2⟩
          case round =>
            clear HL2 k2 u3
            obtain ⟨k, hk, rfl, hL3, k3⟩ := hrel
            have v3 := k3.cellv z3 hXseg.out
            have hjm : j < (markAt id j k s.L).length := by rw [markAt_len]; exact hjL
            have hL3' := hL3
            rw [HG.out] at hL3'
            obtain ⟨q0, q1⟩ := hL3'.cells j hjm
            have hvs := markAt_vs id j k s.L j hjL
            rw [hvs.1, HEV.out] at q1
            have HL3 := hide hL3
            by_cases hkM : k < M
            · obtain ⟨gd, rfl⟩ := hav (by omega)
              have hdk := (hL3.each _ (List.getElem_mem hjm)).1
              have hkT : k < (markAt id j k s.L)[j].T.length := by rw [hvs.2.1, HTM.out]; exact hkM
              have hkv : k < (markAt id j k s.L)[j].vs.length := by rw [hdk.len]; exact hkT
              have hkf : k < (markAt id j k s.L)[j].fl.length := by rw [hdk.flen]; exact hkT
              rw [hvs.1, HEV.out] at hdk
              obtain ⟨r0, r1, r2⟩ := hdk.cells k hkT hkv hkf
              obtain ⟨cur, hcur⟩ := row_block hdk.row
              have hkT' : k < s.L[j].T.length := by rw [HTM.out]; exact hkM
              have hTe : (markAt id j k s.L)[j].T[k] = s.L[j].T[k] := by simp only [hvs.2.1]
              rw [hTe] at r0
              obtain ⟨di, hdi⟩ : ∃ di, s.L[j].T[k].1 = di := ⟨_, rfl⟩
              rw [hdi] at r0
              have fr3 : wr.frozen? ⟨gd, k * 3 + 2, none⟩ = false := by simp [World.frozen?, hcur]
              have hgs : gd ∈ segB s.L := by
                unfold segB
                exact List.mem_filterMap.2 ⟨s.L[j], List.getElem_mem hjL, by rw [HEV.out]; rfl⟩
              have l1 : (0 : Int) ≤ (k : Int) := by omega
              have l2 : (k : Int) < (M : Int) := by omega
              generalize hbb : (markAt id j k s.L)[j].fl[k] = bb at r2
              by_cases heq : di = id
              · subst heq
                have hnew : Hid (RSegs (wr.setCell ⟨gd, k * 3 + 2, none⟩ (.bool true)) B s.sv (markAt di j (k + 1) s.L)) := by
                  show RSegs _ _ _ _
                  have hpw : (markAt di j k s.L).Pairwise fun t u => ∀ g, t.v.ownBlock = some g → u.v.ownBlock ≠ some g := by
                    rw [List.pairwise_iff_getElem]
                    intro p q hp hq hpq g hg
                    have hp' : p < s.L.length := by rw [markAt_len] at hp; exact hp
                    have hq' : q < s.L.length := by rw [markAt_len] at hq; exact hq
                    rw [(markAt_vs di j k s.L p hp').1] at hg
                    rw [(markAt_vs di j k s.L q hq').1]
                    exact List.pairwise_iff_getElem.1 HH.out.apart2 p q hp' hq' hpq g hg
                  have h1 := HL3.out.mark hpw j k gd M cv hjm hkT (by rw [hvs.1]; exact HEV.out)
                  rw [markAt_get di j k s.L hjL, ← markTo_yes di k s.L[j] hkT' hdi, markAt_set di j k (k + 1) s.L hjL] at h1
                  exact h1
                have k4 : Kp (segB s.L) W1 (wr.setCell ⟨gd, k * 3 + 2, none⟩ (.bool true)) := k3.setCell (.inl hgs) _
                clear hL3 hL3' hdk HL3
                go_wp2_with fail
                go_roundw
                case rel => exact ⟨k + 1, by omega, by go_num, hnew.out, k4⟩
                case measure => simp [intOf]; omega
              · have hne : ((di : Int) == (id : Int)) = false := by rw [beq_eq_false_iff_ne]; omega
                have hnew : Hid (RSegs wr B s.sv (markAt id j (k + 1) s.L)) := by
                  show RSegs _ _ _ _
                  rw [← markAt_set id j k (k + 1) s.L hjL, markTo_no id k s.L[j] hkT' (by rw [hdi]; exact heq), markAt_set id j k k s.L hjL]
                  exact HL3.out
                clear hL3 hL3' hdk HL3
                go_wp2_with fail
                go_roundw
                case rel => exact ⟨k + 1, by omega, by go_num, hnew.out, k3⟩
                case measure => simp [intOf]; omega
            · have hkM' : k = M := by omega
              subst hkM'
              have hnew : Hid (RSegs wr B s.sv (markAt id (j + 1) 0 s.L)) := by
                show RSegs _ _ _ _
                rw [← markAt_next id j k s.L hjL HTM.out.symm]
                exact HL3.out
              have l0 : decide ((k : Int) < (k : Int)) = false := by simp
              clear hL3 hL3' HL3 hav
              go_wp2_with fail
              go_roundw
              case rel => exact ⟨j + 1, by omega, by go_num, hnew.out, k3⟩
              case measure => simp [intOf]; omega
        · have hjn' : j = n := by omega
          subst hjn'
          have hend : RSegs wr B s.sv (s.L.map (mark id)) := by
            rw [← markAt_end id s.L, Hn.out]
            exact HL2.out
          have HEND := hide hend
          have l0 : decide ((j : Int) < (j : Int)) = false := by simp
          clear hend
          go_wp2_with fail
          go_end0
          refine ⟨rfl, .slice a m c, ?_, ?_, HEND.out, ?_⟩
          · exact k2.heap HX1.out hXseg.out
          · rw [HM.out]
            exact k2.owns hrow1.out hrseg.out
          · exact (kw1.mono (by simp)).next (k2.mono (fun x hx => List.mem_cons_of_mem _ hx))
end Go.Proofs.YtpdoacfiiledcaaGreatDoor.Pak

set_option linter.unusedVariables false
set_option maxRecDepth 8000
namespace Go.Proofs.YtpdoacfiiledcaaGreatDoor.Pak
open Go.RowKit Go.Proofs.YtpdoacfiiledcaaGreatDoor Go.Proofs.YtpdoacfiiledcaaGreatDoor.Spl SiftM

/-- What is new from one world to the next belongs to whoever made it. -/
def grow (O : List Nat) (w w' : World) : List Nat := O ++ List.range' w.heap.size (w'.heap.size - w.heap.size)
theorem mem_grow {O : List Nat} {w w' : World} {g : Nat} : g ∈ grow O w w' ↔ g ∈ O ∨ (w.heap.size ≤ g ∧ g < w'.heap.size) := by
  unfold grow
  rw [List.mem_append, List.mem_range'_1]
  constructor
  · rintro (h | ⟨h1, h2⟩)
    · exact .inl h
    · exact .inr ⟨h1, by omega⟩
  · rintro (h | ⟨h1, h2⟩)
    · exact .inl h
    · exact .inr ⟨h1, by omega⟩
theorem grow_grow {O : List Nat} {w w1 w2 : World} (h1 : w.heap.size ≤ w1.heap.size) (h2 : w1.heap.size ≤ w2.heap.size) {g : Nat} (h : g ∈ grow (grow O w w1) w1 w2) : g ∈ grow O w w2 := by
  rw [mem_grow, mem_grow] at h
  rw [mem_grow]
  rcases h with (h | ⟨h3, h4⟩) | ⟨h3, h4⟩
  · exact .inl h
  · exact .inr ⟨h3, by omega⟩
  · exact .inr ⟨by omega, h4⟩
theorem kp_grow {O : List Nat} {w w1 w2 : World} (h : Kp O w w1) (k : Kp (grow O w w1) w1 w2) : Kp O w w2 :=
  h.trans k fun x hx => by
    rcases mem_grow.1 hx with h1 | h1
    · exact .inl h1
    · exact .inr h1.1
theorem RIs.more {w : World} {X B : Nat} {O O' : List Nat} {s : RSt} (h : RIs w X B O s) (hO : ∀ g ∈ O, g ∈ O') : RIs w X B O' s :=
  ⟨h.blk, h.rd, h.low, h.loose, h.word, h.segs, h.cnt, h.all60, h.nodup, hO X h.inX, fun g hg => hO g (h.inL g hg), fun g hg => hO g (h.inS g hg), fun t ht g hg => hO g (h.inD t ht g hg), fun u hu g hg => hO g (h.inW u hu g hg), fun t ht u hu g hg => hO g (h.inV t ht u hu g hg), h.apart, h.apart2⟩
theorem RIs.segO {w : World} {X B : Nat} {O : List Nat} {s : RSt} (h : RIs w X B O s) : ∀ g ∈ X :: segB s.L, g ∈ O := by
  intro g hg
  rcases List.mem_cons.1 hg with rfl | hg
  · exact h.inX
  · obtain ⟨t, ht, e⟩ := segB_mem hg
    exact h.inD t ht g e

theorem liveZ_mark (id : Nat) (T : List Tx) (vs : List Value) (fl : List Bool) (h1 : vs.length = T.length) (h2 : fl.length = T.length) :
    liveZ ((T.zip vs).zip (fl.mapIdx fun j b => b || (decide (j < T.length) && decide ((T.map Prod.fst)[j]? = some id)))) = flt id (liveZ ((T.zip vs).zip fl)) := by
  have e : (fl.mapIdx fun j b => b || (decide (j < T.length) && decide ((T.map Prod.fst)[j]? = some id))) = ((T.zip vs).zip fl).map fun z => z.2 || decide (z.1.1.1 = id) := by
    apply List.ext_getElem
    · simp [h1, h2]
    · intro j h3 h4
      have hj : j < T.length := by simpa [h2] using h3
      simp [hj]
  rw [e]
  have e2 : ∀ (zs : List (Pr × Bool)), liveZ ((zs.map Prod.fst).zip (zs.map fun z => z.2 || decide (z.1.1.1 = id))) = flt id (liveZ zs) := by
    intro zs
    induction zs with
    | nil => rfl
    | cons z r ih =>
      obtain ⟨p, b⟩ := z
      unfold liveZ flt at ih ⊢
      simp only [List.map_cons, List.zip_cons_cons, List.filter_cons]
      cases b
      · by_cases hp : p.1.1 = id
        · simp [hp]
          simpa using ih
        · simp [hp]
          simpa using ih
      · simp
        simpa using ih
  have e3 : ((T.zip vs).zip fl).map Prod.fst = T.zip vs := List.map_fst_zip (by simp [h1, h2])
  have := e2 ((T.zip vs).zip fl)
  rw [e3] at this
  exact this
theorem flt_append (id : Nat) (P R : List Pr) : flt id (P ++ R) = flt id P ++ flt id R := by simp [flt]
theorem liveL_mark (id : Nat) : ∀ (L : List RSg), (∀ t ∈ L, t.vs.length = t.T.length ∧ t.fl.length = t.T.length) → liveL (L.map (mark id)) = flt id (liveL L)
  | [], _ => rfl
  | t :: r, h => by
    have ih := liveL_mark id r fun u hu => h u (by simp [hu])
    have h1 := h t (by simp)
    have e : ∀ (x : RSg) (l : List RSg), liveL (x :: l) = liveZ (zsOf x) ++ liveL l := fun x l => by simp [liveL]
    rw [List.map_cons, e, e, ih, flt_append]
    congr 1
    exact liveZ_mark id t.T t.vs t.fl h1.1 h1.2
theorem zip_maps (P : List Pr) : (P.map Prod.fst).zip (P.map Prod.snd) = P := by
  induction P with
  | nil => rfl
  | cons x r ih => simp [ih]
theorem gone_pairs {w : World} {X B : Nat} {O : List Nat} {s : RSt} (h : RIs w X B O s) (id : Nat) (lv : Value) : (goneS s id lv).pairs = flt id s.pairs := by
  unfold RSt.pairs goneS
  simp only
  rw [zip_maps, flt_append, liveL_mark id s.L fun t ht => ⟨(h.segs.each t ht).1.len, (h.segs.each t ht).1.flen⟩]
theorem flt_mem {id : Nat} {P : List Pr} {p : Pr} (h : p ∈ flt id P) : p ∈ P ∧ p.1.1 ≠ id := by
  unfold flt at h
  obtain ⟨h1, h2⟩ := List.mem_filter.1 h
  exact ⟨h1, by simpa using h2⟩
theorem zip_mem_docs {w : World} {B : Nat} {v : Value} {T : List Tx} {vs : List Value} (h : DocsIs w B v T vs) {p : Pr} (hp : p ∈ T.zip vs) : p.1 ∈ T ∧ p.2 ∈ vs ∧ w.ownsRow B 9 1 p.2 p.1.2.length (strV p.1.2) := by
  have h1 := List.of_mem_zip (a := p.1) (b := p.2) hp
  obtain ⟨i, hi, rfl⟩ := List.mem_iff_getElem.1 hp
  have hi' : i < T.length ∧ i < vs.length := by simpa [Nat.lt_min] using hi
  have := h.each i hi'.1 hi'.2
  exact ⟨h1.1, h1.2, by simpa using this⟩
/-- Behind gone the document's index is as it must be. -/
theorem gone_is {w w' : World} {X B : Nat} {O : List Nat} {s : RSt} (h : RIs w X B O s) (id : Nat) (lv : Value) (h1 : w'.heap[X]? = some (.cells (ixC (goneS s id lv)) 187 (0, 0)))
    (h2 : w'.ownsRow w.heap.size 266 3 lv (flt id (s.T.zip s.vs)).length (tx3P (flt id (s.T.zip s.vs)))) (h3 : RSegs w' B s.sv (s.L.map (mark id))) (k : Kp (X :: segB s.L) w w') : RIs w' X B (grow O w w') (goneS s id lv) := by
  have hp := gone_pairs h id lv
  have hsub : (flt id s.pairs).Sublist s.pairs := List.filter_sublist
  have hmv : ∀ u ∈ (goneS s id lv).vs, u ∈ s.vs := fun u hu => by
    obtain ⟨p, hp, rfl⟩ := List.mem_map.1 hu
    exact (zip_mem_docs h.loose (flt_mem hp).1).2.1
  have hO : ∀ g ∈ O, g ∈ grow O w w' := fun g hg => mem_grow.2 (.inl hg)
  have hlv : ∀ g, lv.ownBlock = some g → w.heap.size ≤ g ∧ g < w'.heap.size := fun g hg => h2.lt g hg
  refine ⟨h1, h.rd, Nat.le_trans h.low k.size, ?_, ?_, h3, ?_, ?_, ?_, hO X h.inX, fun g hg => mem_grow.2 (.inr (hlv g hg)), fun g hg => hO g (h.inS g hg), ?_, fun u hu g hg => hO g (h.inW u (hmv u hu) g hg), ?_, ?_, ?_⟩
  · refine pairs_docs h2 h.low fun p hp => ?_
    have hq := (zip_mem_docs h.loose (flt_mem hp).1).2.2
    refine k.owns hq fun g hg hx => ?_
    rcases List.mem_cons.1 hx with rfl | hx
    · exact owns_ne_type hq h.blk (by decide) hg
    · obtain ⟨t, ht, e⟩ := segB_mem hx
      rcases (h.segs.each t ht).1.row.2 with ⟨e1, _⟩ | ⟨g1, cap, cur, e1, _, hb, _⟩
      · rw [e1] at e; simp [Value.ownBlock] at e
      · rw [e1] at e; simp [Value.ownBlock] at e
        subst e
        exact owns_ne_type hq hb (by decide) hg
  · intro t ht
    obtain ⟨p, hp, rfl⟩ := List.mem_map.1 ht
    exact h.word _ (zip_mem_docs h.loose (flt_mem hp).1).1
  · show (s.L.map (mark id)).length ≤ s.next
    rw [List.length_map]; exact h.cnt
  · rw [hp]; exact Nat.le_trans hsub.length_le h.all60
  · rw [hp]; exact ((hsub.map _).map _).nodup h.nodup
  · intro t ht g hg
    obtain ⟨u, hu, rfl⟩ := List.mem_map.1 ht
    exact hO g (h.inD u hu g hg)
  · intro t ht q hq g hg
    obtain ⟨u, hu, rfl⟩ := List.mem_map.1 ht
    exact hO g (h.inV u hu q hq g hg)
  · intro t ht g hg e
    obtain ⟨u, hu, rfl⟩ := List.mem_map.1 ht
    have e1 := (hlv g e).1
    have e2 := ((h.segs.each u hu).1.row.lt g hg).2
    omega
  · show (s.L.map (mark id)).Pairwise _
    rw [List.pairwise_map]
    exact h.apart2
/-- The document's gone. -/
theorem rgone_is (X B : Nat) (O : List Nat) (s : RSt) (id : Nat) (w : World) (h : RIs w X B O s) (hnx : s.next ≤ 1000000) (hid : id ≤ 1000000) :
    Calls Tryz.prog 209 #[.pointer (some ⟨X, 0, none⟩), .int .i64 (id : Int)] w fun e w' => e = .returned (.tuple #[]) ∧ ∃ lv, RIs w' X B (grow O w w') (goneS s id lv) ∧ Kp O w w' := by
  refine (rgone_any X B O s id w h hnx hid).mono ?_
  rintro e w' ⟨rfl, lv, h1, h2, h3, k⟩
  exact ⟨rfl, lv, gone_is h id lv h1 h2 h3 k, k.mono h.segO⟩
/-- Behind a flush too. -/
theorem flush_is {w w' : World} {X B : Nat} {O : List Nat} {s : RSt} (h : RIs w X B O s) (hnx : s.next ≤ 1000000) {sv v : Value} {T' : List Tx} {vs' : List Value} (hp : T'.Perm s.T) (hf : Fine T') (hvs : ∀ u ∈ vs', u ∈ s.vs)
    (h1 : w'.heap[X]? = some (.cells (ixC (flushed s sv v T' vs')) 187 (0, 0))) (h2 : DocsIs w' B v T' vs') (h3 : w'.ownsRow B 287 2 sv (s.L.length + 1) (sg2 (flushed s sv v T' vs').L))
    (h4 : ∀ g, v.ownBlock = some g → w.heap.size ≤ g) (h5 : ∀ g, sv.ownBlock = some g → g ∈ O ∨ w.heap.size ≤ g) (k : Kp (X :: s.sv.ownBlock.toList) w w') : RIs w' X B (grow O w w') (flushed s sv v T' vs') := by
  have hO : ∀ g ∈ O, g ∈ grow O w w' := fun g hg => mem_grow.2 (.inl hg)
  have hall : liveZ (zsOf ⟨s.next, v, T', vs', List.replicate T'.length false⟩) = T'.zip vs' := by
    unfold liveZ zsOf
    simp only
    have e : ((T'.zip vs').zip (List.replicate T'.length false)).filter (fun z => !z.2) = (T'.zip vs').zip (List.replicate T'.length false) := by
      rw [List.filter_eq_self]
      intro z hz
      have := (List.of_mem_zip (a := z.1) (b := z.2) hz).2
      rw [List.mem_replicate] at this
      simp [this.2]
    rw [e]
    exact List.map_fst_zip (by simp; omega)
  have hpr : ((flushed s sv v T' vs').pairs.map Prod.fst).Perm (s.pairs.map Prod.fst) := by
    unfold RSt.pairs flushed
    simp only [List.zip_nil_left, List.nil_append]
    have e : liveL (s.L ++ [⟨s.next, v, T', vs', List.replicate T'.length false⟩]) = liveL s.L ++ (T'.zip vs') := by
      unfold liveL
      rw [List.flatMap_append]
      simp only [List.flatMap_cons, List.flatMap_nil, List.append_nil]
      rw [hall]
    rw [e, List.map_append, List.map_append, List.map_fst_zip (by rw [h2.len]; exact Nat.le_refl _), List.map_fst_zip (by rw [h.loose.len]; exact Nat.le_refl _)]
    exact (List.perm_append_comm).trans (hp.append_right _)
  have hrowD : ∀ t ∈ s.L, DocsM w' B t.v t.T t.vs t.fl := fun t ht => by
    have hd := (h.segs.each t ht).1
    refine hd.kp k (fun x hx e => ?_) (fun u hu x hx e => ?_)
    · rcases List.mem_cons.1 hx with rfl | hx
      · exact owns_ne_type hd.row h.blk (by decide) e
      · simp at hx
        rcases h.segs.row.2 with ⟨e1, _⟩ | ⟨g1, cap, cur, e1, _, hb, _⟩
        · rw [e1] at hx; simp [Value.ownBlock] at hx
        · rw [e1] at hx; simp [Value.ownBlock] at hx
          subst hx
          exact owns_ne_type hd.row hb (by decide) e
    · obtain ⟨j, hj, rfl⟩ := List.mem_iff_getElem.1 hu
      have hq := hd.each j (by rw [← hd.len]; exact hj) hj
      rcases List.mem_cons.1 hx with rfl | hx
      · exact owns_ne_type hq h.blk (by decide) e
      · simp at hx
        rcases h.segs.row.2 with ⟨e1, _⟩ | ⟨g1, cap, cur, e1, _, hb, _⟩
        · rw [e1] at hx; simp [Value.ownBlock] at hx
        · rw [e1] at hx; simp [Value.ownBlock] at hx
          subst hx
          exact owns_ne_type hq hb (by decide) e
  have hv : ∀ g, v.ownBlock = some g → w.heap.size ≤ g ∧ g < w'.heap.size := fun g hg => ⟨h4 g hg, (h2.row.lt g hg).2⟩
  have mem : ∀ t ∈ (flushed s sv v T' vs').L, t ∈ s.L ∨ t = ⟨s.next, v, T', vs', List.replicate T'.length false⟩ := fun t ht => by
    rcases List.mem_append.1 ht with h | h
    · exact .inl h
    · exact .inr (by simpa using h)
  refine ⟨h1, h.rd, Nat.le_trans h.low k.size, ⟨rfl, World.ownsRow_nil _ _ _ _, fun i hi => by simp [flushed] at hi⟩, fun t ht => by simp [flushed] at ht, ⟨?_, ?_⟩, ?_, ?_, ?_, hO X h.inX, fun g hg => by simp [flushed, Value.ownBlock] at hg, ?_, ?_, fun u hu => by simp [flushed] at hu, ?_, fun t ht g hg => by simp [flushed, Value.ownBlock], ?_⟩
  · have : (flushed s sv v T' vs').L.length = s.L.length + 1 := by simp [flushed]
    rw [this]
    exact h3
  · intro t ht
    rcases mem t ht with ht | rfl
    · exact ⟨hrowD t ht, (h.segs.each t ht).2⟩
    · exact ⟨h2.docsM, hf, by show s.next ≤ 1000000000; omega⟩
  · have := h.cnt
    simp [flushed]; omega
  · have h6 := hpr.length_eq
    rw [List.length_map, List.length_map] at h6
    rw [h6]; exact h.all60
  · exact (hpr.map _).nodup_iff.2 h.nodup
  · intro g hg
    rcases h5 g hg with h6 | h6
    · exact hO g h6
    · exact mem_grow.2 (.inr ⟨h6, (h3.lt g hg).2⟩)
  · intro t ht g hg
    rcases mem t ht with ht | rfl
    · exact hO g (h.inD t ht g hg)
    · exact mem_grow.2 (.inr (hv g hg))
  · intro t ht u hu g hg
    rcases mem t ht with ht | rfl
    · exact hO g (h.inV t ht u hu g hg)
    · exact hO g (h.inW u (hvs u hu) g hg)
  · show (s.L ++ _).Pairwise _
    rw [List.pairwise_append]
    refine ⟨h.apart2, List.pairwise_singleton _ _, fun t ht u hu g hg e => ?_⟩
    simp at hu
    subst hu
    have e1 := (hv g e).1
    have e2 := ((h.segs.each t ht).1.row.lt g hg).2
    omega
end Go.Proofs.YtpdoacfiiledcaaGreatDoor.Pak

