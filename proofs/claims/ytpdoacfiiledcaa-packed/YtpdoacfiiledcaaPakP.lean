import Derived.Test.YtpdoacfiiledcaaPakO
namespace Go.Proofs.Ytpdoacfiiledcaa.Pak
open Go.RowKit Go.Proofs.Ytpdoacfiiledcaa SiftM
set_option linter.unusedVariables false

theorem strV_one (l : List (List UInt8)) (x : List UInt8) : strV (l ++ [x]) = strV l ++ [Value.string ⟨x.toArray⟩] := by simp [strV]
/-- The table behind an append to its terms. -/
theorem Tabl.grown {w w4 : World} {T B M c : Nat} {ids : List Nat} {terms : List (List UInt8)} {f : Nat → Nat → Option Nat} {iv tv v' : Value} {tm : List UInt8} (h : Tabl w T B ids terms M c f iv tv) (o : Obj)
    (hown : w4.ownsRow B 9 1 v' (terms.length + 1) (strV terms ++ [Value.string ⟨tm.toArray⟩])) (hg : (w.alloc o).grownBy w4 tv.ownBlock) :
    Tabl (w4.setCell ⟨T, 1, none⟩ v') T B ids (terms ++ [tm]) M c f iv v' ∧ w4.heap[T]? = some (.cells #[iv, tv, .map (some M)] 66 (0, 0)) := by
  have hTt := owns_ne h.terms h.blk (by decide)
  have k4 : Kp tv.ownBlock.toList w w4 := ((Kp.refl _ _).alloc o).grown hg (fun k hk => .inl (by simp [hk]))
  have hT4 : w4.heap[T]? = some (.cells #[iv, tv, .map (some M)] 66 (0, 0)) := k4.heap h.blk (fun hx => hTt (by simpa using hx))
  have ks : Kp [T] w4 (w4.setCell ⟨T, 1, none⟩ v') := (Kp.refl _ _).setCell (.inl (by simp)) _
  have hidt : ∀ g, iv.ownBlock = some g → g ∉ tv.ownBlock.toList := by
    intro g hg' hx
    have hx' : tv.ownBlock = some g := by simpa using hx
    rcases h.ids.2 with ⟨rfl, _⟩ | ⟨g', cap, cur, rfl, hb, hgg, rest⟩
    · simp [Value.ownBlock] at hg'
    · simp [Value.ownBlock] at hg'
      subst hg'
      exact owns_ne h.terms hgg (by decide) hx'
  have hi4 := k4.owns h.ids hidt
  have hm4 := h.map.kp k4 (fun hx => owns_ne_map h.terms h.map (by simpa using hx))
  refine ⟨⟨?_, ks.owns hi4 (fun g hg' hx => ?_), ?_, hm4.kp ks (by simpa using map_ne h.map h.blk), h.leT, h.leM⟩, hT4⟩
  · have e := heap_setCell_same w4 T 1 _ 66 v' hT4
    rw [e]; rfl
  · simp at hx; subst hx
    exact owns_ne hi4 hT4 (by decide) hg'
  · rw [strV_one, List.length_append]
    refine ks.owns hown (fun g hg' hx => ?_)
    simp at hx; subst hx
    exact owns_ne hown hT4 (by decide) hg'

set_option maxHeartbeats 1000000 in
set_option maxRecDepth 100000 in
/-- The rounds over a term's docs. -/
theorem term_rd (R B T M c : Nat) (ids : List Nat) (terms : List (List UInt8)) (f : Nat → Nat → Option Nat) (iv tv : Value) (st : Option (List UInt8)) (w : World) (h : Rd w R B st) (ht : Tabl w T B ids terms M c f iv tv) (hN : ids.length ≤ 60) (h1 : terms.length ≤ 90000) (hc : c ≤ 400000000) (hBw : B ≤ w.heap.size) :
    Calls Try.prog 56 #[.pointer (some ⟨R, 0, none⟩), .pointer (some ⟨T, 0, none⟩)] w fun e w' => ∃ tv',
      e = .returned (.tuple #[]) ∧ Rd w' R B (termF ids.length (terms, c, f, st)).2.2.2 ∧ Tabl w' T B ids (termF ids.length (terms, c, f, st)).1 M (termF ids.length (terms, c, f, st)).2.1 (termF ids.length (terms, c, f, st)).2.2.1 iv tv' ∧ Kb 9 [R, T, M] B w w' := by
  obtain ⟨i0, hi, hz0, hz1, hz2⟩ := info_parts Try.info9
  unfold termF
  simp only
  have hRB := h.le
  obtain ⟨x0, y0, hb⟩ := h.block
  have hRT : R ≠ T := by
    rintro rfl
    have := ht.blk; rw [hb] at this; simp at this
  have hRw := heap_lt hb
  have hTw := heap_lt ht.blk
  have hMR := map_ne ht.map hb
  have hMT := map_ne ht.map ht.blk
  have hMw := ht.map.lt
  have hn1 := number_rd R B st 1 8 w h (by omega)
  have hn8 := numF_le st 1 8
  rw [show ((8 : Nat) : Int) = 8 from rfl] at hn8
  unfold stTerm
  obtain ⟨n1, s1, hE1⟩ : ∃ n s, numF st 1 8 = (n, s) := ⟨_, _, rfl⟩
  rw [hE1] at hn1 hn8 ⊢
  simp only at hn1 hn8 ⊢
  have ht1 := fun w' (h' : Rd w' R B s1) => text_rd R B s1 n1 w' h' (by omega)
  obtain ⟨tm, s2, hE2⟩ : ∃ t s, textF s1 n1 = (t, s) := ⟨_, _, rfl⟩
  have htl : tm.length ≤ 1000000 := by
    have : tm = (textF s1 n1).1 := by rw [hE2]
    rw [this]; unfold textF
    cases s1 with
    | none => simp
    | some l => simp only; split <;> simp; omega
  rw [hE2] at ht1 ⊢
  simp only at ht1 ⊢
  have his := fun w' => is_any ⟨tm.toArray⟩ w' (by show tm.toArray.size ≤ _; simpa using htl)
  obtain ⟨b1, hb1⟩ : ∃ b, isWord tm = b := ⟨_, rfl⟩
  obtain ⟨b2, hb2⟩ : ∃ b, isNextF terms tm = b := ⟨_, rfl⟩
  obtain ⟨s3, hs3⟩ : ∃ s3, (if (isWord tm && isNextF terms tm) = true then s2 else none) = s3 := ⟨_, rfl⟩
  rw [hs3]
  rw [hb1, hb2] at hs3
  have hn2 := fun w' (h' : Rd w' R B s3) => number_rd R B s3 1 ids.length w' h' (by omega)
  have hnN := numF_le s3 1 ids.length
  obtain ⟨n2, s4, hE4⟩ : ∃ n s, numF s3 1 ids.length = (n, s) := ⟨_, _, rfl⟩
  rw [hE4] at hn2 hnN ⊢
  simp only at hn2 hnN ⊢
  have hdc := docN_c terms.length ids.length (0, c, f, s4)
  have hdl := docN_le terms.length ids.length (0, c, f, s4) rfl
  simp only at hdc
  have hnx := fun w' (h' : Tabl w' T B ids terms M c f iv tv) => next_tb T B M c ids terms f iv tv tm w' h' (by omega)
  rw [hb2] at hnx
  have hisb : ∀ w', Calls Try.prog 75 #[.string ⟨tm.toArray⟩] w' fun e w'_1 => e = .returned (.bool b1) ∧ w'_1 = w' := by
    intro w'
    have := his w'
    simpa [hb1] using this
  have HH := hide h
  have HT := hide ht
  have Hn1 := hide hn1
  have Ht1 := hide ht1
  have His := hide hisb
  have Hnx := hide hnx
  have Hn2 := hide hn2
  have Hs3 := hide hs3
  have Hdc := hide hdc
  have Hdl := hide hdl
  clear h ht hn1 ht1 his hisb hnx hn2 hs3 hdc hdl hE1 hE2 hE4 hb1 hb2 hb x0 y0
  go_enter Try.func56, Try.ntmps56
  go_wp2_with fail
  refine Hn1.out.mono ?_
  rintro e w1 ⟨rfl, hr1, hk1⟩
  have HR1 := hide hr1
  clear hr1
  go_wp2_with fail
  refine (Ht1.out w1 HR1.out).mono ?_
  rintro e w2 ⟨rfl, hr2, hk2⟩
  have HR2 := hide hr2
  have hk02 := hk1.next hk2
  clear hr2
  have ht2 : Tabl w2 T B ids terms M c f iv tv := HT.out.kp hk02 (HT.out.map.kp hk02 (by simpa using hMR)) (by simpa using hRT.symm) (fun x hx => by simp at hx; subst hx; exact owns_ne HT.out.ids (Classical.choose_spec (Classical.choose_spec HH.out.block)) (by decide)) (fun x hx => by simp at hx; subst hx; exact owns_ne HT.out.terms (Classical.choose_spec (Classical.choose_spec HH.out.block)) (by decide))
  have HT2 := hide ht2
  clear ht2
  go_wp2_with fail
  refine (His.out w2).mono ?_
  rintro e w2' ⟨rfl, rfl⟩
  cases b1
  case' false =>
    go_wp2_with fail
    refine (fail_any R B hRB _ _ w2' (Classical.choose_spec (Classical.choose_spec HR2.out.block))).mono ?_
    rintro e w3 ⟨rfl, hr3, hk3⟩
    have HR3 : Hid (Rd w3 R B s3) := by
      have e := Hs3.out
      simp at e
      rw [← e]; exact hr3
    have hk03 := hk02.next hk3
    clear hr3 hk3
  case' true =>
    have tb1 := (tb_cells HT2.out.blk).2.1
    go_wp2_with fail
    refine (Hnx.out w2' HT2.out).mono ?_
    rintro e w2x ⟨rfl, rfl⟩
    clear tb1
    cases b2
    case' false =>
      go_wp2_with fail
      refine (fail_any R B hRB _ _ w2x (Classical.choose_spec (Classical.choose_spec HR2.out.block))).mono ?_
      rintro e w3 ⟨rfl, hr3, hk3⟩
      have HR3 : Hid (Rd w3 R B s3) := by
        have e := Hs3.out
        simp at e
        rw [← e]; exact hr3
      have hk03 := hk02.next hk3
      clear hr3 hk3
    case' true =>
      obtain ⟨w3, hw3⟩ : ∃ w3, w3 = w2x := ⟨_, rfl⟩
      subst hw3
      have HR3 : Hid (Rd w3 R B s3) := by
        have e := Hs3.out
        simp at e
        rw [← e]; exact HR2.out
      have hk03 := hk02
  all_goals
    have ht3 : Tabl w3 T B ids terms M c f iv tv := HT.out.kp hk03 (HT.out.map.kp hk03 (by simpa using hMR)) (by simpa using hRT.symm) (fun x hx => by simp at hx; subst hx; exact owns_ne HT.out.ids (Classical.choose_spec (Classical.choose_spec HH.out.block)) (by decide)) (fun x hx => by simp at hx; subst hx; exact owns_ne HT.out.terms (Classical.choose_spec (Classical.choose_spec HH.out.block)) (by decide))
    obtain ⟨c0, c1, c2, fz0, fz1, fz2⟩ := tb_cells ht3.blk
    obtain ⟨ai, ci, ei, hai⟩ := owns_forms ht3.ids
    obtain ⟨at', ct, et, hat'⟩ := owns_forms ht3.terms
    have hsz3 := hk03.size
    have HT3 := hide ht3
    have HO3 := hide ht3.terms
    rw [et] at c1 HO3
    rw [ei] at c0
    have hTw3 := heap_lt ht3.blk
    clear ht3 HT2 HR2 HR1
    go_wp2_with (first
      | (at_builtin; refine wpList_append_own_at _ rfl _ _ 23 rfl B 9 i0 (.string ⟨#[]⟩) 1 16 Try.underlying23 hi hz0 hz1 hz2 rfl (by decide) _ _ _ rfl (HO3.out.alloc _) ⟨w3.heap.size, 0, none⟩ 1 1 [.string ⟨tm.toArray⟩] rfl rfl (one_new _ _ _) ?c2 ?c3 ?c4 ?c5 ?_)
      | fail)
    case c2 => intro u hu; simp at hu; subst hu; rfl
    case c3 => unfold maxLen; omega
    case c4 => omega
    case c5 => simp; omega
    intro v' w4 hown4 hgrow4 _ hloc
    rw [← et] at hgrow4
    obtain ⟨htb4, hT4⟩ := HT3.out.grown _ hown4 hgrow4
    obtain ⟨av, cv, ev, _⟩ := owns_forms hown4
    subst ev
    obtain ⟨d0, d1, d2, gz0, gz1, gz2⟩ := tb_cells hT4
    rw [ei] at d0
    have hsz4 := hgrow4.size
    simp at hsz4
    have kb4 : Kb 9 [R, T, M] B w w4 := (Kb.of_kp hk03 (by simp)).next (((Kb.refl 9 [R, T, M] B w3).alloc _).grown (HT3.out.terms.alloc _) hgrow4)
    have hR4 : Rd w4 R B s3 := HR3.out.kp (((Kp.refl tv.ownBlock.toList w3).alloc _).grown hgrow4 (fun k hk => .inl (by simp [hk]))) (fun hx => owns_ne HT3.out.terms (Classical.choose_spec (Classical.choose_spec HR3.out.block)) (by decide) (by simpa using hx)) (fun x hx => (HT3.out.terms.lt x (by simpa using hx)).1)
    have HTB4 := hide htb4
    have HR4 := hide hR4
    clear htb4 hT4 hown4 hgrow4 hR4 hloc c0 c1 c2 fz0 fz1 fz2
    have hTw4 : T < w4.heap.size := by omega
    go_wp2_with fail
    obtain ⟨W5, hW5⟩ : ∃ W5, (w4.setCell ⟨T, 1, none⟩ (.slice av (terms.length + 1) cv)).alloc (.cells #[.int .i64 0] 97) = W5 := ⟨_, rfl⟩
    rw [hW5]
    have k5 : Kp [T] w4 W5 := by rw [← hW5]; exact ((Kp.refl [T] w4).setCell (.inl (by simp)) _).alloc _
    have hR5 : Rd W5 R B s3 := HR4.out.kp k5 (by simpa using hRT) (by simpa using HT.out.leT)
    have ht5 : Tabl W5 T B ids (terms ++ [tm]) M c f iv (.slice av (terms.length + 1) cv) := by
      have k6 : Kp [] (w4.setCell ⟨T, 1, none⟩ (.slice av (terms.length + 1) cv)) W5 := by rw [← hW5]; exact (Kp.refl _ _).alloc _
      exact HTB4.out.kp k6 (HTB4.out.map.kp k6 (by simp)) (by simp) (by simp) (by simp)
    have hq5 : Ri W5 w4.heap.size 0 := by
      rw [← hW5]
      have := heap_alloc_new (w4.setCell ⟨T, 1, none⟩ (.slice av (terms.length + 1) cv)) (.cells #[.int .i64 0] 97)
      simpa [Ri] using this
    have hsz5 : W5.heap.size = w4.heap.size + 1 := by rw [← hW5]; simp
    have kb5 : Kb 9 [R, T, M] B w W5 := kb4.next (Kb.of_kp k5 (by simp))
    have HR5 := hide hR5
    have HT5 := hide ht5
    have HQ5 := hide hq5
    clear hR5 ht5 hq5 d0 d1 d2 gz0 gz1 gz2 hW5 k5 kb4 HTB4 HR4
    refine (Hn2.out W5 HR5.out).mono ?_
    rintro e w6 ⟨rfl, hr6, hk6⟩
    have ht6 : Tabl w6 T B ids (terms ++ [tm]) M c f iv (.slice av (terms.length + 1) cv) := HT5.out.kp hk6 (HT5.out.map.kp hk6 (by simpa using hMR)) (by simpa using hRT.symm) (fun x hx => by simp at hx; subst hx; exact owns_ne HT5.out.ids (Classical.choose_spec (Classical.choose_spec HR5.out.block)) (by decide)) (fun x hx => by simp at hx; subst hx; exact owns_ne HT5.out.terms (Classical.choose_spec (Classical.choose_spec HR5.out.block)) (by decide))
    have hq6 : Ri w6 w4.heap.size 0 := hk6.heap HQ5.out (by simp; omega)
    have hsz6 := hk6.size
    have kb6 : Kb 9 [R, T, M] B w w6 := kb5.next (Kb.of_kp hk6 (by simp))
    have HR6 := hide hr6
    have HT6 := hide ht6
    have HQ6 := hide hq6
    clear hr6 ht6 hq6 kb5 HR5 HT5 HQ5
    go_wp2_with fail
    go_loopw [41] (fun kv wr => ∃ k : Nat, k ≤ n2 ∧ kv = .int .i64 k ∧ Ri wr w4.heap.size (docN terms.length ids.length (0, c, f, s4) k).1 ∧ Rd wr R B (docN terms.length ids.length (0, c, f, s4) k).2.2.2 ∧ Tabl wr T B ids (terms ++ [tm]) M (docN terms.length ids.length (0, c, f, s4) k).2.1 (docN terms.length ids.length (0, c, f, s4) k).2.2.1 iv (.slice av (terms.length + 1) cv) ∧ w4.heap.size < wr.heap.size ∧ Kb 9 [R, T, M] B w wr) (fun kv _ => n2 - (intOf kv).toNat)
    case atStart => exact ⟨0, by omega, rfl, HQ6.out, HR6.out, HT6.out, by omega, kb6⟩
    case round =>
      clear HR6 HT6 HQ6 kb6
      obtain ⟨k, hk, rfl, hq, hr, htb, hsw, hkb⟩ := hrel
      by_cases hlt : k < n2
      · have hdk : Hid (docN terms.length ids.length (0, c, f, s4) (k + 1) = docStep terms.length ids.length (docN terms.length ids.length (0, c, f, s4) k)) := rfl
        have hck := Hdc.out k
        have hlk := Hdl.out k
        obtain ⟨le, c', f', s', hds⟩ : ∃ le c' f' s', docN terms.length ids.length (0, c, f, s4) k = (le, c', f', s') := ⟨_, _, _, _, rfl⟩
        rw [hds] at hq hr htb hck hlk hdk
        simp only at hq hr htb hck hlk
        unfold docStep at hdk
        simp only at hdk
        have hE := entry_rd R B w4.heap.size s' le ((ids.length : Int) - 1) wr hr hq (by omega) (by omega) (by omega) (by omega)
        have hlt2 := numF_lt s' 0 ((ids.length : Int) - 1 - le)
        obtain ⟨en, s5, hE5⟩ : ∃ n s, numF s' 0 ((ids.length : Int) - 1 - le) = (n, s) := ⟨_, _, rfl⟩
        rw [hE5] at hE hlt2 hdk
        simp only at hE hlt2 hdk
        obtain ⟨b0, b1, b2, _, _, _⟩ := tb_cells htb.blk
        rw [ei] at b0
        have HQ := hide hq
        have HR := hide hr
        have HTB := hide htb
        have HE := hide hE
        clear hq hr htb hE hds hE5
        go_wp2_with fail
        refine HE.out.mono ?_
        rintro e w7 ⟨rfl, hr7, hq7, hk7⟩
        have hnRQ : ∀ x ∈ [R, w4.heap.size], x = R ∨ x = w4.heap.size := by simp
        have hQb : wr.heap[w4.heap.size]? = some (.cells #[.int .i64 le] 97 (0, 0)) := HQ.out
        obtain ⟨xr, yr, hRb⟩ := HR.out.block
        have ht7 : Tabl w7 T B ids (terms ++ [tm]) M c' f' iv (.slice av (terms.length + 1) cv) := HTB.out.kp hk7 (HTB.out.map.kp hk7 (by simp [hMR]; omega)) (by simp [hRT.symm]; omega) (fun x hx => by
            rcases hnRQ x hx with rfl | rfl
            · exact owns_ne HTB.out.ids hRb (by decide)
            · exact owns_ne HTB.out.ids hQb (by decide)) (fun x hx => by
            rcases hnRQ x hx with rfl | rfl
            · exact owns_ne HTB.out.terms hRb (by decide)
            · exact owns_ne HTB.out.terms hQb (by decide))
        have hsz7 := hk7.size
        have HQ7 := hide hq7
        have kb7 : Kb 9 [R, T, M] B w w7 := hkb.trans (S' := [R, w4.heap.size]) (Kb.of_kp hk7 (fun x hx => .inl hx)) (by simp; omega)
        have hP := places_rd R B T M (le + en) c' ids (terms ++ [tm]) f' iv (.slice av (terms.length + 1) cv) s5 w7 hr7 ht7 (by simp) (by simp; omega) (by omega) (by omega) (by omega)
        have etix : (terms ++ [tm]).length - 1 = terms.length := by simp
        rw [etix] at hP
        have HP := hide hP
        clear hr7 hq7 ht7 hP b0 b1 b2
        go_wp2_with fail
        refine HP.out.mono ?_
        rintro e w8 ⟨rfl, hr8, ht8, hk8⟩
        have hq8 : Ri w8 w4.heap.size (le + en + 1) := hk8.heap HQ7.out (by simp; omega)
        have hsz8 := hk8.size
        have HR8 := hide hr8
        have HT8 := hide ht8
        have HQ8 := hide hq8
        clear hr8 ht8 hq8
        go_wp2_with fail
        go_roundw
        case rel =>
          refine ⟨k + 1, by omega, by go_num, ?_, ?_, ?_, by omega, kb7.next (Kb.of_kp hk8 (by simp))⟩
          · rw [hdk.out]; exact HQ8.out
          · rw [hdk.out]; exact HR8.out
          · rw [hdk.out]; exact HT8.out
        case measure => simp [intOf]; omega
      · have ek : k = n2 := by omega
        subst ek
        have HR := hide hr
        have HTB := hide htb
        clear hr htb hq
        go_wp2_with fail
        go_end0
        exact ⟨_, rfl, HR.out, HTB.out, hkb⟩
end Go.Proofs.Ytpdoacfiiledcaa.Pak
