import Derived.Test.YtpdoacfiiledcaaGreatDoorV27
set_option linter.unusedVariables false
set_option maxRecDepth 8000
namespace Go.Proofs.YtpdoacfiiledcaaGreatDoor.Pak
open Go.RowKit Go.Proofs.YtpdoacfiiledcaaGreatDoor Go.Proofs.YtpdoacfiiledcaaGreatDoor.Spl SiftM

theorem kp_of_below {w w' : World} (h : Below w.heap.size w w') : Kp [] w w' := Kp.of_below [] h
theorem flt_len_eq (id : Nat) (P : List Pr) (h : (P.map (fun p => p.1.1)).Nodup) (hi : id ∈ P.map (fun p => p.1.1)) : (flt id P).length + 1 = P.length := by
  induction P with
  | nil => simp at hi
  | cons x r ih =>
    simp only [List.map_cons, List.nodup_cons] at h
    unfold flt
    rw [List.filter_cons]
    by_cases hx : x.1.1 = id
    · have hno : flt id r = r := by
        unfold flt
        rw [List.filter_eq_self]
        intro p hp
        have : p.1.1 ≠ id := fun e => h.1 (by rw [hx, ← e]; exact List.mem_map.2 ⟨p, hp, rfl⟩)
        simpa using this
      unfold flt at hno
      simp [hx, hno]
    · have hi' : id ∈ r.map (fun p => p.1.1) := by
        simp only [List.map_cons, List.mem_cons] at hi
        rcases hi with hi | hi
        · exact absurd hi.symm hx
        · exact hi
      have := ih h.2 hi'
      unfold flt at this
      simp [hx]
      omega
/-- Behind gone there is room for one more, whose id is another. -/
theorem gone_room {w : World} {X B : Nat} {O : List Nat} {s : RSt} (h : RIs w X B O s) (id : Nat) (lv : Value) (hr : ¬ (id ∉ s.abs.ids ∧ 60 ≤ s.abs.all.length)) :
    id ∉ ((goneS s id lv).pairs.map Prod.fst).map Prod.fst ∧ (goneS s id lv).pairs.length < 60 := by
  have hall := abs_all h
  have e0 : s.abs.ids = s.pairs.map (fun p => p.1.1) := by
    unfold DSt.ids
    rw [← hall, List.map_map]; rfl
  have e1 : s.abs.all.length = s.pairs.length := by rw [← hall, List.length_map]
  rw [gone_pairs h]
  refine ⟨fun hx => ?_, ?_⟩
  · rw [List.map_map] at hx
    obtain ⟨p, hp, e⟩ := List.mem_map.1 hx
    exact (flt_mem hp).2 e
  · have h60 := h.all60
    have hle : (flt id s.pairs).length ≤ s.pairs.length := List.length_filter_le _ _
    by_cases hin : id ∈ s.abs.ids
    · have hnd : (s.pairs.map (fun p => p.1.1)).Nodup := by
        have := h.nodup
        rw [List.map_map] at this
        exact this
      have := flt_len_eq id s.pairs hnd (by rw [← e0]; exact hin)
      omega
    · have : ¬ 60 ≤ s.abs.all.length := fun h6 => hr ⟨hin, h6⟩
      omega

set_option maxHeartbeats 4000000 in
theorem radd_any (X B : Nat) (O : List Nat) (s : RSt) (idI : Int) (b : ByteArray) (w : World) (h : RIs w X B O s) (hnx : s.next < 1000000) (hb : b.size ≤ 140737488355328) :
    Calls Tryz.prog 106 #[.pointer (some ⟨X, 0, none⟩), .int .i64 idI, .string b] w fun e w' => e = .returned (.int .i64 (s.abs.addE idI b)) ∧ ∃ s', RIs w' X B (grow O w w') s' ∧ s'.abs = s.abs.add idI b ∧ Kp O w w' := by
  obtain ⟨x0, x2, x3, x4, x18, f2, f3, f4⟩ := ix_cells h
  have hself : ∀ (E : Int), s.abs.addE idI b = E → E ≠ 0 → ∀ w', Kp [] w w' → (∃ s', RIs w' X B (grow O w w') s' ∧ s'.abs = s.abs.add idI b ∧ Kp O w w') := by
    intro E hE hne w' k
    refine ⟨s, (h.kp k (by simp)).more (fun g hg => mem_grow.2 (.inl hg)), ?_, k.mono (by simp)⟩
    unfold DSt.add
    rw [if_neg (by rw [hE]; exact hne)]
  by_cases hr1 : idI < 0 ∨ 99999 < idI
  · have hE : s.abs.addE idI b = 3 := by unfold DSt.addE; rw [if_pos hr1]
    have HS := hide (hself 3 hE (by decide) w (Kp.refl _ _))
    rw [hE]
    clear h hself x0 x2 x3 x4 f2 f3 f4
    by_cases hneg : idI < 0
    · go_enter Tryz.func106, Tryz.ntmps106
      go_wp2_with fail
      go_ret
      exact ⟨rfl, HS.out⟩
    · have hbig : 99999 < idI := by omega
      go_enter Tryz.func106, Tryz.ntmps106
      go_wp2_with fail
      go_ret
      exact ⟨rfl, HS.out⟩
  · obtain ⟨id, rfl⟩ : ∃ id : Nat, idI = (id : Int) := ⟨idI.toNat, by omega⟩
    have hid : id ≤ 99999 := by omega
    have c1 : ¬ ((id : Int) < 0) := by omega
    have c2 : ¬ (99999 < (id : Int)) := by omega
    by_cases hr2 : 120 < b.size
    · have hE : s.abs.addE id b = 4 := by unfold DSt.addE; rw [if_neg hr1, if_pos hr2]
      have HS := hide (hself 4 hE (by decide) w (Kp.refl _ _))
      rw [hE]
      clear h hself x0 x2 x3 x4 f2 f3 f4
      have c3 : (120 : Int) < (b.size : Int) := by omega
      go_enter Tryz.func106, Tryz.ntmps106
      go_wp2_with fail
      go_ret
      exact ⟨rfl, HS.out⟩
    · have c3 : ¬ ((120 : Int) < (b.size : Int)) := by omega
      have hb120 : b.size ≤ 120 := by omega
      have hall := abs_all h
      have hids : s.abs.ids = (s.pairs.map Prod.fst).map Prod.fst := by unfold DSt.ids; rw [hall]
      have hhas := rhas_any X B s.lv s.sv s.T s.vs s.L s.L.length s.T.length id w x2 x3 h.low h.loose rfl h.segs rfl (by have := h.cnt; omega) h.all60 h.nodup (by omega)
      obtain ⟨T', hp, hso⟩ := sorted_exists _ h.nodup
      have htx := fun (w1 : World) (k : Kp [] w w1) => rtexts_any X B s.lv s.sv s.T s.vs s.L s.L.length s.T.length T' w1 (k.cellv x2 (by simp)) (k.cellv x3 (by simp)) (Nat.le_trans h.low k.size) (h.loose.kp0 k) rfl (h.segs.kp0 k) rfl (by have := h.cnt; omega) h.all60 hp hso
      have hlen : T'.length = s.abs.all.length := by rw [hp.length_eq, ← hall]
      have hn60 : s.abs.all.length ≤ 60 := by rw [← hlen, hp.length_eq, List.length_map]; exact h.all60
      rw [show (s.T.zip s.vs ++ liveL s.L).map Prod.fst = s.pairs.map Prod.fst from rfl, ← hids] at hhas
      obtain ⟨n, hn⟩ : ∃ n, s.abs.all.length = n := ⟨_, rfl⟩
      rw [hn] at hlen hn60
      obtain ⟨hs, hhs⟩ : ∃ hs, decide (id ∈ s.abs.ids) = hs := ⟨_, rfl⟩
      rw [hhs] at hhas
      have HH := hide h
      have HHAS := hide hhas
      have HTX := hide htx
      have HSELF := hide hself
      have HLEN := hide hlen
      have HN := hide hn
      have HHS := hide hhs
      have hbf : s.abs.addE id b = if hs = false ∧ 60 ≤ n then 5 else 0 := by
        unfold DSt.addE
        rw [if_neg hr1, if_neg hr2, hn, Int.toNat_natCast, ← hhs]
        simp
      have HBF := hide hbf
      by_cases hfull : hs = false ∧ 60 ≤ n
      · have hE : s.abs.addE id b = 5 := by rw [hbf, if_pos hfull]
        have HE := hide hE
        rw [hE]
        obtain ⟨rfl, hf60⟩ := hfull
        have c4 : (60 : Int) ≤ (n : Int) := by omega
        clear h hself x0 x2 x3 x4 f2 f3 f4 hhas htx hlen hn hhs hbf hE hall hids hp hso
        go_enter Tryz.func106, Tryz.ntmps106
        go_wp2_with fail
        refine HHAS.out.mono ?_
        rintro e w1 ⟨rfl, k1⟩
        go_wp2_with fail
        refine (HTX.out w1 k1).mono ?_
        rintro e w2 ⟨v', vs', rfl, hd, k2⟩
        obtain ⟨a, c, e, _⟩ := owns_forms hd.row
        rw [HLEN.out] at e
        subst e
        clear hd
        go_wp2_with fail
        go_ret
        exact ⟨rfl, HSELF.out 5 HE.out (by decide) w2 (k1.next k2)⟩
      · have hE : s.abs.addE id b = 0 := by rw [hbf, if_neg hfull]
        have HE := hide hE
        have hroom : ¬ (id ∉ s.abs.ids ∧ 60 ≤ s.abs.all.length) := by
          rintro ⟨h1, h2⟩
          refine hfull ⟨?_, by omega⟩
          rw [← hhs]; simpa using h1
        have HRM := hide hroom
        rw [hE]
        have hcond : (hs = true) ∨ (hs = false ∧ ¬ (60 : Int) ≤ (n : Int)) := by
          cases hs
          · right; exact ⟨rfl, fun h6 => hfull ⟨rfl, by omega⟩⟩
          · exact .inl rfl
        have hwds := sp_few b hb120
        have HW := hide hwds
        clear h hself x0 x2 x3 x4 f2 f3 f4 hhas htx hlen hn hhs hbf hE hall hids hp hso hroom hwds
        obtain ⟨i0, hi0, hz0, hz1, hz2⟩ := info_parts info148
        rcases hcond with rfl | ⟨rfl, c4⟩
        all_goals
          go_enter Tryz.func106, Tryz.ntmps106
          go_wp2_with fail
          refine HHAS.out.mono ?_
          rintro e w1 ⟨rfl, k1⟩
          go_wp2_with fail
          refine (HTX.out w1 k1).mono ?_
          rintro e w2 ⟨v', vs', rfl, hd, k2⟩
          obtain ⟨a, c, e, _⟩ := owns_forms hd.row
          rw [HLEN.out] at e
          subst e
          clear hd
          have k02 := k1.next k2
          have hi2 := HH.out.kp k02 (by simp)
          have hgone := rgone_is X B O s id w2 hi2 (by omega) (by omega)
          have HI2 := hide hi2
          clear hi2
          go_wp2_with fail
          refine hgone.mono ?_
          rintro e w3 ⟨rfl, lv, hi3, k3⟩
          have HI3 := hide hi3
          clear hi3 hgone
          go_wp2_with fail
          refine (refSplit_any b w3 (by omega)).mono ?_
          rintro e w4 ⟨u, rfl, hu, hbl⟩
          have k4 : Kp [] w3 w4 := kp_of_below hbl
          have hi4 := HI3.out.kp k4 (by simp)
          obtain ⟨s3, hs3⟩ : ∃ s3, goneS s id lv = s3 := ⟨_, rfl⟩
          have hrm := gone_room HI2.out id lv HRM.out
          have habs := gone_abs HI2.out id lv
          have hnx3 : s3.next = s.next := by rw [← hs3]; rfl
          have hbf3 : s3.buf = s.buf := by rw [← hs3]; rfl
          rw [hs3] at hi4 hrm habs HI3
          obtain ⟨y0, y2, y3, y4, y18, g2, g3, g4⟩ := ix_cells hi4
          obtain ⟨al, cl, el, _⟩ := owns_forms hi4.loose.row
          have hrow := hi4.loose.row
          rw [docs_pairs hi4.loose.len] at hrow
          obtain ⟨n3, hn3⟩ : ∃ n3, s3.T.length = n3 := ⟨_, rfl⟩
          have hn60' : n3 ≤ 60 := by
            have h1 := hi4.all60
            have h2 := hi4.loose.len
            unfold RSt.pairs at h1
            simp at h1
            omega
          rw [hn3] at el hrow
          rw [el] at y2 hrow
          obtain ⟨au, cu, eu, _⟩ := owns_forms hu
          have hlw : B ≤ w4.heap.size := hi4.low
          have HU := hide hu
          have HI4 := hide hi4
          have HROW := hide hrow
          have HX4 := hide hi4.blk
          have HRM3 := hide hrm
          have HAB := hide habs
          have HEL := hide el
          have HN3 := hide hn3
          have hXl : Hid (s3.lv.ownBlock ≠ some X) := owns_ne_type hi4.loose.row hi4.blk (by decide)
          rw [eu]
          have HEU := hide eu
          clear hu hbl hi4 hrow hrm habs el eu hn3 y3 y4 y18 g3 g4
          go_wp2_with (first
            | (at_builtin; refine wpList_append_own_at _ rfl _ _ 180 rfl B 266 i0 (.agg #[.int .i64 0, .slice none 0 0, .bool false]) 3 40 Tryz.underlying180 hi0 hz0 hz1 hz2 rfl (by decide) _ _ _ rfl (HROW.out.alloc _) ⟨w4.heap.size, 0, none⟩ 1 1 [.int .i64 (id : Int), .slice au (sp b.size b.data.toList).length cu, .bool false] rfl rfl (World.news_of_block (cs := #[.int .i64 (id : Int), .slice au (sp b.size b.data.toList).length cu, .bool false]) (t := 266) (fr := (0, 0)) (heap_alloc_new _ _)) ?g2 ?g3 ?g4 ?g5 ?_)
            | fail)
          case g2 => first | exact ⟨rfl, rfl, rfl⟩ | simp [Value.oneCell']
          case g3 => unfold maxLen; omega
          case g4 => omega
          case g5 => first | omega | (simp; omega)
          intro v5 w5 ho5 hgrow _ hat
          obtain ⟨a5, c5, rfl, _⟩ := owns_forms ho5
          have k5 : Kp s3.lv.ownBlock.toList w4 w5 := by
            rw [HEL.out]
            exact ((Kp.refl _ _).alloc _).grown hgrow (fun j hj => .inl (by simp [hj]))
          have hX5 := k5.heap HX4.out (fun hx => hXl.out (by simpa using hx))
          have z2 : w5.frozen? ⟨X, 2, none⟩ = false := by simp [World.frozen?, hX5]
          have z3 : w5.cell? ⟨X, 2, none⟩ = some (.slice al n3 cl) := by
            have := HEL.out
            simp [World.cell?, hX5, ixC, ixA, this]
          obtain ⟨W6, hW6⟩ : ∃ W6, w5.setCell ⟨X, 2, none⟩ (.slice a5 (n3 + 1) c5) = W6 := ⟨_, rfl⟩
          have hX6 : W6.heap[X]? = some (.cells (ixC { s3 with lv := .slice a5 (n3 + 1) c5 }) 187 (0, 0)) := by rw [← hW6, heap_setCell_same w5 X 2 _ 187 _ hX5, ixC_set2]
          have q2 : W6.cell? ⟨X, 2, none⟩ = some (.slice a5 (n3 + 1) c5) := by simp [World.cell?, hX6, ixC, ixA]
          have q0 : W6.cell? ⟨X, 0, none⟩ = some (.int .i64 (s.buf : Int)) := by simp [World.cell?, hX6, ixC, ixA, hbf3]
          have kX : Kp [X] w5 W6 := by rw [← hW6]; exact kp_set w5 X 2 _
          have k46 : Kp (X :: s3.lv.ownBlock.toList) w4 W6 := (k5.mono (fun x hx => List.mem_cons_of_mem _ hx)).next (kX.mono (by simp))
          have k36 : Kp (X :: s3.lv.ownBlock.toList) w3 W6 := (k4.mono (by simp)).next k46
          have hs34 := k4.size
          have hs46 := k46.size
          have hs23 := k3.size
          have hs02 := k02.size
          have hu4 : w4.ownsRow B 9 1 u (wordsB b).length (strV (wordsB b)) := owns_low HU.out (Nat.le_trans HI3.out.low (Nat.le_refl _))
          have hfin : Hid (RIs W6 X B (grow (grow O w2 w3) w3 W6) (addS s3 (.slice a5 (n3 + 1) c5) (id, wordsB b) u)) := by
            refine add_is HI3.out _ u (id, wordsB b) hX6 ?_ ?_ (fun g hg => (HU.out.lt g hg).1) ?_ k36 HRM3.out.1 HRM3.out.2 ⟨hid, HW.out.1, ⟨HW.out.2.1, HW.out.2.2.1⟩, HW.out.2.2.2⟩
            · rw [HN3.out, tx3P_append, HEU.out]
              exact kX.owns ho5 (fun gg hgg hx => by
                simp at hx; subst hx
                exact owns_ne_type ho5 hX5 (by decide) hgg)
            · refine k46.owns hu4 (fun gg hgg hx => ?_)
              rcases List.mem_cons.1 hx with rfl | hx
              · exact owns_ne_type hu4 HX4.out (by decide) hgg
              · simp at hx
                have hr := HROW.out
                rw [← HEL.out] at hr
                rcases hr.2 with ⟨e1, _⟩ | ⟨g1, cap, cur, e1, _, hb, _⟩
                · rw [e1] at hx; simp [Value.ownBlock] at hx
                · rw [e1] at hx; simp [Value.ownBlock] at hx
                  subst hx
                  exact owns_ne_type hu4 hb (by decide) hgg
            · intro g hg
              rcases hat with h1 | h1
              · left; rw [HEL.out, ← h1]; exact hg
              · right
                rw [h1] at hg
                simp at hg
                omega
          have hOin : Hid (∀ g ∈ grow (grow O w2 w3) w3 W6, g ∈ grow O w W6) := by
            intro g hg
            have h1 := grow_grow (by omega) (by omega) hg
            rcases mem_grow.1 h1 with h2 | h2
            · exact mem_grow.2 (.inl h2)
            · exact mem_grow.2 (.inr ⟨by omega, h2.2⟩)
          have hlO : Hid (∀ x ∈ X :: s3.lv.ownBlock.toList, x ∈ grow O w2 w3) := by
            intro x hx
            rcases List.mem_cons.1 hx with rfl | hx
            · exact HI3.out.inX
            · exact HI3.out.inL x (by simpa using hx)
          have k06 : Kp O w W6 := (k02.mono (by simp)).next (kp_grow k3 (k36.mono hlO.out))
          have hab6 : Hid ((addS s3 (.slice a5 (n3 + 1) c5) (id, wordsB b) u).abs = (s.abs.gone id).put (id, wordsB b)) := by
            show _ = _
            rw [← HAB.out]; rfl
          have hlen6 : Hid (((s.abs.gone id).put (id, wordsB b)).T.length = n3 + 1) := by
            show _ = _
            rw [← HAB.out]
            show (s3.T ++ [_]).length = _
            rw [List.length_append, HN3.out]; rfl
          clear ho5 hgrow hat HU HROW hX5 hX6 hu4
          go_wp2_with fail
          try rw [hW6]
          go_region
          by_cases hge : (s.buf : Int) ≤ (n3 : Int) + 1
          · have hfl := rflush_is X B _ _ W6.drew (hfin.out.kp (S := []) ⟨rfl, rfl, rfl, Nat.le_refl _, fun _ _ _ => rfl⟩ (by simp)) (by show s3.next ≤ _; omega)
            go_wp2_with fail
            refine hfl.mono ?_
            rintro e w7 ⟨rfl, s7, hi7, ha7, _, k7⟩
            have HI7 := hide hi7
            have HA7 := hide ha7
            clear hfl hi7 ha7
            go_wp2_with fail
            go_ret
            have k67 : Kp (grow (grow O w2 w3) w3 W6) W6 w7 := (Kp.mono (S := []) (w := W6) (w' := W6.drew) ⟨rfl, rfl, rfl, Nat.le_refl _, fun _ _ _ => rfl⟩ (by simp)).next k7
            refine ⟨rfl, s7, HI7.out.more ?_, ?_, kp_grow k06 (k67.mono hOin.out)⟩
            · intro g hg
              rcases mem_grow.1 hg with h1 | h1
              · rcases mem_grow.1 (hOin.out g h1) with h2 | h2
                · exact mem_grow.2 (.inl h2)
                · exact mem_grow.2 (.inr ⟨h2.1, Nat.lt_of_lt_of_le h2.2 k67.size⟩)
              · exact mem_grow.2 (.inr ⟨Nat.le_trans k06.size h1.1, h1.2⟩)
            · rw [HA7.out, hab6.out]
              unfold DSt.add
              rw [if_pos HE.out, Int.toNat_natCast]
              unfold DSt.add1
              rw [if_pos (by rw [hlen6.out]; show s.buf ≤ _; omega)]
          · go_wp2_with fail
            go_ret
            have hfd : RIs W6.drew X B (grow O w W6) (addS s3 (.slice a5 (n3 + 1) c5) (id, wordsB b) u) := (RIs.kp (S := []) (w' := W6.drew) hfin.out ⟨rfl, rfl, rfl, Nat.le_refl _, fun _ _ _ => rfl⟩ (by simp)).more hOin.out
            refine ⟨rfl, _, hfd, ?_, k06.next (Kp.mono (S := []) (w := W6) (w' := W6.drew) ⟨rfl, rfl, rfl, Nat.le_refl _, fun _ _ _ => rfl⟩ (by simp))⟩
            rw [hab6.out]
            unfold DSt.add
            rw [if_pos HE.out, Int.toNat_natCast]
            unfold DSt.add1
            rw [if_neg (by rw [hlen6.out]; show ¬ s.buf ≤ _; omega)]
end Go.Proofs.YtpdoacfiiledcaaGreatDoor.Pak

