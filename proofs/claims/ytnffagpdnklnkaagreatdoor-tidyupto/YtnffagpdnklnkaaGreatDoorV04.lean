import Derived.Test.YtnffagpdnklnkaaGreatDoorV03
import Derived.Sort.Walk0
set_option linter.unusedVariables false
set_option linter.unusedSimpArgs false
set_option maxRecDepth 8000
namespace Go.Proofs.YtnffagpdnklnkaaGreatDoor.Pak
open Go.RowKit Go.Proofs.YtnffagpdnklnkaaGreatDoor Go.Proofs.YtnffagpdnklnkaaGreatDoor.Spl SiftM
def isNextF (terms : List (List UInt8)) (t : List UInt8) : Bool := decide (terms.length = 0) || decide (terms.getD (terms.length - 1) [] < t)

theorem strs_cells {w : World} {base n g cap : Nat} {l : List (List UInt8)} (h : w.ownsRow base 9 1 (.slice (some ⟨g, 0, none⟩) n cap) n (strV l)) (hl : l.length = n) : ∀ i (hi : i < l.length), w.cell? ⟨g, i, none⟩ = some (.string ⟨l[i].toArray⟩) := by
  intro i hi
  have := h.cells (g := g) rfl i (.string ⟨l[i].toArray⟩) (by simp [strV, hi])
  have e : (⟨g, 0, none⟩ : Addr).add i = ⟨g, i, none⟩ := by unfold Addr.add; split <;> simp_all
  rwa [e] at this

set_option maxHeartbeats 400000 in
set_option maxRecDepth 100000 in
theorem next_tb (T B M c : Nat) (ids : List Nat) (terms : List (List UInt8)) (f : Nat → Nat → Option Nat) (iv tv : Value) (s : List UInt8) (w : World) (ht : Tabl w T B ids terms M c f iv tv) (hl : terms.length ≤ 100000) :
    Calls Tryz.prog 144 #[.string ⟨s.toArray⟩, tv] w fun e w' => e = .returned (.bool (isNextF terms s)) ∧ w' = w := by
  obtain ⟨b0, b1, b2, fz0, fz1, fz2⟩ := tb_cells ht.blk
  obtain ⟨a, cap, e1, ha⟩ := owns_forms ht.terms
  subst e1
  by_cases h0 : terms.length = 0
  · have e : Hid (isNextF terms s = true) := by show _ = _; simp [isNextF, h0]
    rw [h0]
    clear ht b0 b1 b2 fz0 fz1 fz2
    go_enter Tryz.func144, Tryz.ntmps144
    go_wp2_with fail
    go_ret
    exact ⟨ret_bool e.out.symm, rfl⟩
  · obtain ⟨g, rfl⟩ := ha (by omega)
    have hc := strs_cells ht.terms rfl (terms.length - 1) (by omega)
    have hget : terms.getD (terms.length - 1) [] = terms[terms.length - 1] := by rw [List.getD_eq_getElem?_getD, List.getElem?_eq_getElem (by omega)]; rfl
    have e : Hid (isNextF terms s = decide (terms[terms.length - 1] < s)) := by show _ = _; unfold isNextF; rw [hget]; simp [h0]
    obtain ⟨n, hn⟩ : ∃ n, terms.length = n := ⟨_, rfl⟩
    obtain ⟨x, hx⟩ : ∃ x, terms[terms.length - 1] = x := ⟨_, rfl⟩
    rw [hx] at hc e
    rw [hn] at hc hl h0 ⊢
    have hn1 : ((n : Int) - 1).toNat = n - 1 := by omega
    clear ht hx hn hget b0 b1 b2 fz0 fz1 fz2
    go_enter Tryz.func144, Tryz.ntmps144
    go_wp2_with fail
    go_ret
    have hn0 : ((n : Int) == 0) = false := by simp; omega
    exact ⟨ret_bool (by rw [e.out, ← Go.Proofs.bytesLess_eq]; simp [hn0]), rfl⟩

/-- What one doc of a term gives: how far the docs have come; the entries. -/
def docStep (tix N : Nat) (s : Nat × PS) : Nat × PS :=
  (s.1 + (numF s.2.2.2 0 ((N : Int) - 1 - s.1)).1 + 1, placesF tix (s.1 + (numF s.2.2.2 0 ((N : Int) - 1 - s.1)).1) s.2.1 s.2.2.1 (numF s.2.2.2 0 ((N : Int) - 1 - s.1)).2)
def docN (tix N : Nat) (s : Nat × PS) : Nat → Nat × PS
  | 0 => s
  | k + 1 => docStep tix N (docN tix N s k)
abbrev TS := List (List UInt8) × PS
/-- The reader behind a term. -/
def stTerm (terms : List (List UInt8)) (st : Option (List UInt8)) : Option (List UInt8) :=
  if isWord (textF (numF st 1 8).2 (numF st 1 8).1).1 && isNextF terms (textF (numF st 1 8).2 (numF st 1 8).1).1 then (textF (numF st 1 8).2 (numF st 1 8).1).2 else none
def termF (N : Nat) (s : TS) : TS :=
  (s.1 ++ [(textF (numF s.2.2.2 1 8).2 (numF s.2.2.2 1 8).1).1],
   (docN s.1.length N (0, s.2.1, s.2.2.1, (numF (stTerm s.1 s.2.2.2) 1 N).2) (numF (stTerm s.1 s.2.2.2) 1 N).1).2)
theorem placesF_c (tix doc c : Nat) (f : Nat → Nat → Option Nat) (st : Option (List UInt8)) : (placesF tix doc c f st).1 ≤ c + 60 := by
  unfold placesF
  have h := plStep_c tix doc (c, f, (riseN 59 (numF st 1 60).2 (numF st 1 60).1).2.2) (riseN 59 (numF st 1 60).2 (numF st 1 60).1).1
  rw [riseN_len] at h
  have h2 := numF_le st 1 60
  simp only at h
  exact Nat.le_trans h (Nat.add_le_add_left h2 c)
theorem docN_c (tix N : Nat) (s : Nat × PS) : ∀ k, (docN tix N s k).2.1 ≤ s.2.1 + 60 * k
  | 0 => by simp [docN]
  | k + 1 => by
    have h := docN_c tix N s k
    have h2 := placesF_c tix ((docN tix N s k).1 + (numF (docN tix N s k).2.2.2 0 ((N : Int) - 1 - (docN tix N s k).1)).1) (docN tix N s k).2.1 (docN tix N s k).2.2.1 (numF (docN tix N s k).2.2.2 0 ((N : Int) - 1 - (docN tix N s k).1)).2
    simp only [docN, docStep]
    omega
theorem docN_le (tix N : Nat) (s : Nat × PS) (h0 : s.1 = 0) (k : Nat) : (docN tix N s k).1 ≤ k * 268435456 := by
  induction k with
  | zero => simp [docN, h0]
  | succ k ih =>
    have h2 := numF_lt (docN tix N s k).2.2.2 0 ((N : Int) - 1 - (docN tix N s k).1)
    simp only [docN, docStep]
    rw [Nat.succ_mul]
    exact Nat.succ_le_of_lt (Nat.add_lt_add_of_le_of_lt ih h2)
theorem strV_one (l : List (List UInt8)) (x : List UInt8) : strV (l ++ [x]) = strV l ++ [Value.string ⟨x.toArray⟩] := by simp [strV]
/-- The table behind an append to its terms. -/
theorem Tabl.grown {w w4 : World} {T B M c : Nat} {ids : List Nat} {terms : List (List UInt8)} {f : Nat → Nat → Option Nat} {iv tv v' : Value} {tm : List UInt8} (h : Tabl w T B ids terms M c f iv tv) (o : Obj)
    (hown : w4.ownsRow B 9 1 v' (terms.length + 1) (strV terms ++ [Value.string ⟨tm.toArray⟩])) (hg : (w.alloc o).grownBy w4 tv.ownBlock) :
    Tabl (w4.setCell ⟨T, 1, none⟩ v') T B ids (terms ++ [tm]) M c f iv v' ∧ w4.heap[T]? = some (.cells #[iv, tv, .map (some M)] 105 (0, 0)) := by
  have hTt := owns_ne h.terms h.blk (by decide)
  have k4 : Kp tv.ownBlock.toList w w4 := ((Kp.refl _ _).alloc o).grown hg (fun k hk => .inl (by simp [hk]))
  have hT4 : w4.heap[T]? = some (.cells #[iv, tv, .map (some M)] 105 (0, 0)) := k4.heap h.blk (fun hx => hTt (by simpa using hx))
  have ks : Kp [T] w4 (w4.setCell ⟨T, 1, none⟩ v') := (Kp.refl _ _).setCell (.inl (by simp)) _
  have hidt : ∀ g, iv.ownBlock = some g → g ∉ tv.ownBlock.toList := by
    intro g hg' hx
    have hx' : tv.ownBlock = some g := by simpa using hx
    rcases h.ids.2 with ⟨rfl, _⟩ | ⟨g', cap, cur, rfl, hb, hgg, rest⟩
    · simp [Value.ownBlock] at hg'
    · simp [Value.ownBlock] at hg'
      subst hg'
      exact owns_ne h.terms hgg (by decide) hx'
  have hi4 := k4.owns h.ids hidt
  have hm4 := h.map.kp k4 (fun hx => owns_ne_map h.terms h.map (by simpa using hx))
  refine ⟨⟨?_, ks.owns hi4 (fun g hg' hx => ?_), ?_, hm4.kp ks (by simpa using map_ne h.map h.blk), h.leT, h.leM⟩, hT4⟩
  · have e := heap_setCell_same w4 T 1 _ 105 v' hT4
    rw [e]; rfl
  · simp at hx; subst hx
    exact owns_ne hi4 hT4 (by decide) hg'
  · rw [strV_one, List.length_append]
    refine ks.owns hown (fun g hg' hx => ?_)
    simp at hx; subst hx
    exact owns_ne hown hT4 (by decide) hg'

set_option maxHeartbeats 2000000 in
set_option maxRecDepth 100000 in
/-- The rounds over a term's docs. -/
theorem term_rd (R B T M c : Nat) (ids : List Nat) (terms : List (List UInt8)) (f : Nat → Nat → Option Nat) (iv tv : Value) (st : Option (List UInt8)) (w : World) (h : Rd w R B st) (ht : Tabl w T B ids terms M c f iv tv) (hN : ids.length ≤ 60) (h1 : terms.length ≤ 90000) (hc : c ≤ 400000000) (hBw : B ≤ w.heap.size) :
    Calls Tryz.prog 102 #[.pointer (some ⟨R, 0, none⟩), .pointer (some ⟨T, 0, none⟩)] w fun e w' => ∃ tv',
      e = .returned (.tuple #[]) ∧ Rd w' R B (termF ids.length (terms, c, f, st)).2.2.2 ∧ Tabl w' T B ids (termF ids.length (terms, c, f, st)).1 M (termF ids.length (terms, c, f, st)).2.1 (termF ids.length (terms, c, f, st)).2.2.1 iv tv' ∧ Kb 9 [R, T, M] B w w' := by
  obtain ⟨i0, hi, hz0, hz1, hz2⟩ := info_parts Tryz.info9
  unfold termF
  simp only
  have hRB := h.le
  obtain ⟨x0, y0, hb⟩ := h.block
  have hRT : R ≠ T := by
    rintro rfl
    have := ht.blk; rw [hb] at this; simp at this
  have hRw := heap_lt hb
  have hTw := heap_lt ht.blk
  have hMR := map_ne ht.map hb
  have hMT := map_ne ht.map ht.blk
  have hMw := ht.map.lt
  have hn1 := number_rd R B st 1 8 w h (by omega)
  have hn8 := numF_le st 1 8
  rw [show ((8 : Nat) : Int) = 8 from rfl] at hn8
  unfold stTerm
  obtain ⟨n1, s1, hE1⟩ : ∃ n s, numF st 1 8 = (n, s) := ⟨_, _, rfl⟩
  rw [hE1] at hn1 hn8 ⊢
  simp only at hn1 hn8 ⊢
  have ht1 := fun w' (h' : Rd w' R B s1) => text_rd R B s1 n1 w' h' (by omega)
  obtain ⟨tm, s2, hE2⟩ : ∃ t s, textF s1 n1 = (t, s) := ⟨_, _, rfl⟩
  have htl : tm.length ≤ 2000000 := by
    have : tm = (textF s1 n1).1 := by rw [hE2]
    rw [this]; unfold textF
    cases s1 with
    | none => simp
    | some l => simp only; split <;> simp; omega
  rw [hE2] at ht1 ⊢
  simp only at ht1 ⊢
  have his := fun w' => is_any ⟨tm.toArray⟩ w' (by show tm.toArray.size ≤ _; simpa using htl)
  obtain ⟨b1, hb1⟩ : ∃ b, isWord tm = b := ⟨_, rfl⟩
  obtain ⟨b2, hb2⟩ : ∃ b, isNextF terms tm = b := ⟨_, rfl⟩
  obtain ⟨s3, hs3⟩ : ∃ s3, (if (isWord tm && isNextF terms tm) = true then s2 else none) = s3 := ⟨_, rfl⟩
  rw [hs3]
  rw [hb1, hb2] at hs3
  have hn2 := fun w' (h' : Rd w' R B s3) => number_rd R B s3 1 ids.length w' h' (by omega)
  have hnN := numF_le s3 1 ids.length
  obtain ⟨n2, s4, hE4⟩ : ∃ n s, numF s3 1 ids.length = (n, s) := ⟨_, _, rfl⟩
  rw [hE4] at hn2 hnN ⊢
  simp only at hn2 hnN ⊢
  have hdc := docN_c terms.length ids.length (0, c, f, s4)
  have hdl := docN_le terms.length ids.length (0, c, f, s4) rfl
  simp only at hdc
  have hnx := fun w' (h' : Tabl w' T B ids terms M c f iv tv) => next_tb T B M c ids terms f iv tv tm w' h' (by omega)
  rw [hb2] at hnx
  have hisb : ∀ w', Calls Tryz.prog 143 #[.string ⟨tm.toArray⟩] w' fun e w'_1 => e = .returned (.bool b1) ∧ w'_1 = w' := by
    intro w'
    have := his w'
    simpa [hb1] using this
  have HH := hide h
  have HT := hide ht
  have Hn1 := hide hn1
  have Ht1 := hide ht1
  have His := hide hisb
  have Hnx := hide hnx
  have Hn2 := hide hn2
  have Hs3 := hide hs3
  have Hdc := hide hdc
  have Hdl := hide hdl
  clear h ht hn1 ht1 his hisb hnx hn2 hs3 hdc hdl hE1 hE2 hE4 hb1 hb2 hb x0 y0
  go_enter Tryz.func102, Tryz.ntmps102
  go_wp2_with fail
  refine Hn1.out.mono ?_
  rintro e w1 ⟨rfl, hr1, hk1⟩
  have HR1 := hide hr1
  clear hr1
  go_wp2_with fail
  refine (Ht1.out w1 HR1.out).mono ?_
  rintro e w2 ⟨rfl, hr2, hk2⟩
  have HR2 := hide hr2
  have hk02 := hk1.next hk2
  clear hr2
  have ht2 : Tabl w2 T B ids terms M c f iv tv := HT.out.kp hk02 (HT.out.map.kp hk02 (by simpa using hMR)) (by simpa using hRT.symm) (fun x hx => by simp at hx; subst hx; exact owns_ne HT.out.ids (Classical.choose_spec (Classical.choose_spec HH.out.block)) (by decide)) (fun x hx => by simp at hx; subst hx; exact owns_ne HT.out.terms (Classical.choose_spec (Classical.choose_spec HH.out.block)) (by decide))
  have HT2 := hide ht2
  clear ht2
  go_wp2_with fail
  refine (His.out w2).mono ?_
  rintro e w2' ⟨rfl, rfl⟩
  cases b1
  case' false =>
    go_wp2_with fail
    refine (fail_any R B hRB _ _ w2' (Classical.choose_spec (Classical.choose_spec HR2.out.block))).mono ?_
    rintro e w3 ⟨rfl, hr3, hk3⟩
    have HR3 : Hid (Rd w3 R B s3) := by
      have e := Hs3.out
      simp at e
      rw [← e]; exact hr3
    have hk03 := hk02.next hk3
    clear hr3 hk3
  case' true =>
    have tb1 := (tb_cells HT2.out.blk).2.1
    go_wp2_with fail
    refine (Hnx.out w2' HT2.out).mono ?_
    rintro e w2x ⟨rfl, rfl⟩
    clear tb1
    cases b2
    case' false =>
      go_wp2_with fail
      refine (fail_any R B hRB _ _ w2x (Classical.choose_spec (Classical.choose_spec HR2.out.block))).mono ?_
      rintro e w3 ⟨rfl, hr3, hk3⟩
      have HR3 : Hid (Rd w3 R B s3) := by
        have e := Hs3.out
        simp at e
        rw [← e]; exact hr3
      have hk03 := hk02.next hk3
      clear hr3 hk3
    case' true =>
      obtain ⟨w3, hw3⟩ : ∃ w3, w3 = w2x := ⟨_, rfl⟩
      subst hw3
      have HR3 : Hid (Rd w3 R B s3) := by
        have e := Hs3.out
        simp at e
        rw [← e]; exact HR2.out
      have hk03 := hk02
  all_goals
    have ht3 : Tabl w3 T B ids terms M c f iv tv := HT.out.kp hk03 (HT.out.map.kp hk03 (by simpa using hMR)) (by simpa using hRT.symm) (fun x hx => by simp at hx; subst hx; exact owns_ne HT.out.ids (Classical.choose_spec (Classical.choose_spec HH.out.block)) (by decide)) (fun x hx => by simp at hx; subst hx; exact owns_ne HT.out.terms (Classical.choose_spec (Classical.choose_spec HH.out.block)) (by decide))
    obtain ⟨c0, c1, c2, fz0, fz1, fz2⟩ := tb_cells ht3.blk
    obtain ⟨ai, ci, ei, hai⟩ := owns_forms ht3.ids
    obtain ⟨at', ct, et, hat'⟩ := owns_forms ht3.terms
    have hsz3 := hk03.size
    have HT3 := hide ht3
    have HO3 := hide ht3.terms
    rw [et] at c1 HO3
    rw [ei] at c0
    have hTw3 := heap_lt ht3.blk
    clear ht3 HT2 HR2 HR1
    go_wp2_with (first
      | (at_builtin; refine wpList_append_own_at _ rfl _ _ 37 rfl B 9 i0 (.string ⟨#[]⟩) 1 16 Tryz.underlying37 hi hz0 hz1 hz2 rfl (by decide) _ _ _ rfl (HO3.out.alloc _) ⟨w3.heap.size, 0, none⟩ 1 1 [.string ⟨tm.toArray⟩] rfl rfl (one_new _ _ _) ?c2 ?c3 ?c4 ?c5 ?_)
      | fail)
    case c2 => intro u hu; simp at hu; subst hu; rfl
    case c3 => unfold maxLen; omega
    case c4 => omega
    case c5 => simp; omega
    intro v' w4 hown4 hgrow4 _ hloc
    rw [← et] at hgrow4
    obtain ⟨htb4, hT4⟩ := HT3.out.grown _ hown4 hgrow4
    obtain ⟨av, cv, ev, _⟩ := owns_forms hown4
    subst ev
    obtain ⟨d0, d1, d2, gz0, gz1, gz2⟩ := tb_cells hT4
    rw [ei] at d0
    have hsz4 := hgrow4.size
    simp at hsz4
    have kb4 : Kb 9 [R, T, M] B w w4 := (Kb.of_kp hk03 (by simp)).next (((Kb.refl 9 [R, T, M] B w3).alloc _).grown (HT3.out.terms.alloc _) hgrow4)
    have hR4 : Rd w4 R B s3 := HR3.out.kp (((Kp.refl tv.ownBlock.toList w3).alloc _).grown hgrow4 (fun k hk => .inl (by simp [hk]))) (fun hx => owns_ne HT3.out.terms (Classical.choose_spec (Classical.choose_spec HR3.out.block)) (by decide) (by simpa using hx)) (fun x hx => (HT3.out.terms.lt x (by simpa using hx)).1)
    have HTB4 := hide htb4
    have HR4 := hide hR4
    clear htb4 hT4 hown4 hgrow4 hR4 hloc c0 c1 c2 fz0 fz1 fz2
    have hTw4 : T < w4.heap.size := by omega
    go_wp2_with fail
    obtain ⟨W5, hW5⟩ : ∃ W5, (w4.setCell ⟨T, 1, none⟩ (.slice av (terms.length + 1) cv)).alloc (.cells #[.int .i64 0] 217) = W5 := ⟨_, rfl⟩
    rw [hW5]
    have k5 : Kp [T] w4 W5 := by rw [← hW5]; exact ((Kp.refl [T] w4).setCell (.inl (by simp)) _).alloc _
    have hR5 : Rd W5 R B s3 := HR4.out.kp k5 (by simpa using hRT) (by simpa using HT.out.leT)
    have ht5 : Tabl W5 T B ids (terms ++ [tm]) M c f iv (.slice av (terms.length + 1) cv) := by
      have k6 : Kp [] (w4.setCell ⟨T, 1, none⟩ (.slice av (terms.length + 1) cv)) W5 := by rw [← hW5]; exact (Kp.refl _ _).alloc _
      exact HTB4.out.kp k6 (HTB4.out.map.kp k6 (by simp)) (by simp) (by simp) (by simp)
    have hq5 : Ri W5 w4.heap.size 0 := by
      rw [← hW5]
      have := heap_alloc_new (w4.setCell ⟨T, 1, none⟩ (.slice av (terms.length + 1) cv)) (.cells #[.int .i64 0] 217)
      simpa [Ri] using this
    have hsz5 : W5.heap.size = w4.heap.size + 1 := by rw [← hW5]; simp
    have kb5 : Kb 9 [R, T, M] B w W5 := kb4.next (Kb.of_kp k5 (by simp))
    have HR5 := hide hR5
    have HT5 := hide ht5
    have HQ5 := hide hq5
    clear hR5 ht5 hq5 d0 d1 d2 gz0 gz1 gz2 hW5 k5 kb4 HTB4 HR4
    refine (Hn2.out W5 HR5.out).mono ?_
    rintro e w6 ⟨rfl, hr6, hk6⟩
    have ht6 : Tabl w6 T B ids (terms ++ [tm]) M c f iv (.slice av (terms.length + 1) cv) := HT5.out.kp hk6 (HT5.out.map.kp hk6 (by simpa using hMR)) (by simpa using hRT.symm) (fun x hx => by simp at hx; subst hx; exact owns_ne HT5.out.ids (Classical.choose_spec (Classical.choose_spec HR5.out.block)) (by decide)) (fun x hx => by simp at hx; subst hx; exact owns_ne HT5.out.terms (Classical.choose_spec (Classical.choose_spec HR5.out.block)) (by decide))
    have hq6 : Ri w6 w4.heap.size 0 := hk6.heap HQ5.out (by simp; omega)
    have hsz6 := hk6.size
    have kb6 : Kb 9 [R, T, M] B w w6 := kb5.next (Kb.of_kp hk6 (by simp))
    have HR6 := hide hr6
    have HT6 := hide ht6
    have HQ6 := hide hq6
    clear hr6 ht6 hq6 kb5 HR5 HT5 HQ5
    go_wp2_with fail
    go_loopw [41] (fun kv wr => ∃ k : Nat, k ≤ n2 ∧ kv = .int .i64 k ∧ Ri wr w4.heap.size (docN terms.length ids.length (0, c, f, s4) k).1 ∧ Rd wr R B (docN terms.length ids.length (0, c, f, s4) k).2.2.2 ∧ Tabl wr T B ids (terms ++ [tm]) M (docN terms.length ids.length (0, c, f, s4) k).2.1 (docN terms.length ids.length (0, c, f, s4) k).2.2.1 iv (.slice av (terms.length + 1) cv) ∧ w4.heap.size < wr.heap.size ∧ Kb 9 [R, T, M] B w wr) (fun kv _ => n2 - (intOf kv).toNat)
    case atStart => exact ⟨0, by omega, rfl, HQ6.out, HR6.out, HT6.out, by omega, kb6⟩
    case round =>
      clear HR6 HT6 HQ6 kb6
      obtain ⟨k, hk, rfl, hq, hr, htb, hsw, hkb⟩ := hrel
      by_cases hlt : k < n2
      · have hdk : Hid (docN terms.length ids.length (0, c, f, s4) (k + 1) = docStep terms.length ids.length (docN terms.length ids.length (0, c, f, s4) k)) := rfl
        have hck := Hdc.out k
        have hlk := Hdl.out k
        obtain ⟨le, c', f', s', hds⟩ : ∃ le c' f' s', docN terms.length ids.length (0, c, f, s4) k = (le, c', f', s') := ⟨_, _, _, _, rfl⟩
        rw [hds] at hq hr htb hck hlk hdk
        simp only at hq hr htb hck hlk
        unfold docStep at hdk
        simp only at hdk
        have hE := entry_rd R B w4.heap.size s' le ((ids.length : Int) - 1) wr hr hq (by omega) (by omega) (by omega) (by omega)
        have hlt2 := numF_lt s' 0 ((ids.length : Int) - 1 - le)
        obtain ⟨en, s5, hE5⟩ : ∃ n s, numF s' 0 ((ids.length : Int) - 1 - le) = (n, s) := ⟨_, _, rfl⟩
        rw [hE5] at hE hlt2 hdk
        simp only at hE hlt2 hdk
        obtain ⟨b0, b1, b2, _, _, _⟩ := tb_cells htb.blk
        rw [ei] at b0
        have HQ := hide hq
        have HR := hide hr
        have HTB := hide htb
        have HE := hide hE
        clear hq hr htb hE hds hE5
        go_wp2_with fail
        refine HE.out.mono ?_
        rintro e w7 ⟨rfl, hr7, hq7, hk7⟩
        have hnRQ : ∀ x ∈ [R, w4.heap.size], x = R ∨ x = w4.heap.size := by simp
        have hQb : wr.heap[w4.heap.size]? = some (.cells #[.int .i64 le] 217 (0, 0)) := HQ.out
        obtain ⟨xr, yr, hRb⟩ := HR.out.block
        have ht7 : Tabl w7 T B ids (terms ++ [tm]) M c' f' iv (.slice av (terms.length + 1) cv) := HTB.out.kp hk7 (HTB.out.map.kp hk7 (by simp [hMR]; omega)) (by simp [hRT.symm]; omega) (fun x hx => by
            rcases hnRQ x hx with rfl | rfl
            · exact owns_ne HTB.out.ids hRb (by decide)
            · exact owns_ne HTB.out.ids hQb (by decide)) (fun x hx => by
            rcases hnRQ x hx with rfl | rfl
            · exact owns_ne HTB.out.terms hRb (by decide)
            · exact owns_ne HTB.out.terms hQb (by decide))
        have hsz7 := hk7.size
        have HQ7 := hide hq7
        have kb7 : Kb 9 [R, T, M] B w w7 := hkb.trans (S' := [R, w4.heap.size]) (Kb.of_kp hk7 (fun x hx => .inl hx)) (by simp; omega)
        have hP := places_rd R B T M (le + en) c' ids (terms ++ [tm]) f' iv (.slice av (terms.length + 1) cv) s5 w7 hr7 ht7 (by simp) (by simp; omega) (by omega) (by omega) (by omega)
        have etix : (terms ++ [tm]).length - 1 = terms.length := by simp
        rw [etix] at hP
        have HP := hide hP
        clear hr7 hq7 ht7 hP b0 b1 b2
        go_wp2_with fail
        refine HP.out.mono ?_
        rintro e w8 ⟨rfl, hr8, ht8, hk8⟩
        have hq8 : Ri w8 w4.heap.size (le + en + 1) := hk8.heap HQ7.out (by simp; omega)
        have hsz8 := hk8.size
        have HR8 := hide hr8
        have HT8 := hide ht8
        have HQ8 := hide hq8
        clear hr8 ht8 hq8
        go_wp2_with fail
        go_roundw
        case rel =>
          refine ⟨k + 1, by omega, by go_num, ?_, ?_, ?_, by omega, kb7.next (Kb.of_kp hk8 (by simp))⟩
          · rw [hdk.out]; exact HQ8.out
          · rw [hdk.out]; exact HR8.out
          · rw [hdk.out]; exact HT8.out
        case measure => simp [intOf]; omega
      · have ek : k = n2 := by omega
        subst ek
        have HR := hide hr
        have HTB := hide htb
        clear hr htb hq
        go_wp2_with fail
        go_end0
        exact ⟨_, rfl, HR.out, HTB.out, hkb⟩
def termN (N : Nat) (s : TS) : Nat → TS
  | 0 => s
  | k + 1 => termF N (termN N s k)
def no : Nat → Nat → Option Nat := fun _ _ => none
def stMark (st : Option (List UInt8)) : Option (List UInt8) := if (textF st 1).1 = [83] then (textF st 1).2 else none
/-- What a reader gives: the ids, and the rest. -/
def tableF (st : Option (List UInt8)) : List Nat × TS :=
  let n := numF (stMark st) 0 60
  let r := riseN 99999 n.2 n.1
  let m := numF r.2.2 0 3600
  (r.1, termN r.1.length ([], 0, no, m.2) m.1)
theorem termN_len (N : Nat) (s : TS) : ∀ k, (termN N s k).1.length = s.1.length + k
  | 0 => rfl
  | k + 1 => by
    have := termN_len N s k
    simp only [termN, termF, List.length_append, List.length_singleton]; omega
theorem termN_c (N : Nat) (hN : N ≤ 60) (s : TS) : ∀ k, (termN N s k).2.1 ≤ s.2.1 + 3600 * k
  | 0 => by simp [termN]
  | k + 1 => by
    have h := termN_c N hN s k
    simp only [termN, termF]
    generalize termN N s k = x at *
    obtain ⟨ts, c, f, st⟩ := x
    simp only at h ⊢
    have h2 := docN_c ts.length N (0, c, f, (numF (stTerm ts st) 1 N).2) (numF (stTerm ts st) 1 N).1
    have h3 := numF_le (stTerm ts st) 1 N
    simp only at h2
    omega

set_option maxHeartbeats 2000000 in
set_option maxRecDepth 100000 in
theorem table_rd (R B : Nat) (st : Option (List UInt8)) (w : World) (h : Rd w R B st) (hBw : B ≤ w.heap.size) :
    Calls Tryz.prog 62 #[.pointer (some ⟨R, 0, none⟩)] w fun e w' => ∃ T M iv tv,
      e = .returned (.agg #[iv, tv, .map (some M)]) ∧ Rd w' R B (tableF st).2.2.2.2 ∧ Tabl w' T B (tableF st).1 (tableF st).2.1 M (tableF st).2.2.1 (tableF st).2.2.2.1 iv tv ∧ Below B w w' := by
  have hmm := @run_makeMap Tryz.prog
  have hRB := h.le
  obtain ⟨x0, y0, hb⟩ := h.block
  have hRw := heap_lt hb
  unfold tableF stMark
  have ht1 := fun w' (h' : Rd w' R B st) => text_rd R B st 1 w' h' (by omega)
  obtain ⟨tm, s1, hE1⟩ : ∃ t s, textF st 1 = (t, s) := ⟨_, _, rfl⟩
  rw [hE1] at ht1 ⊢
  simp only at ht1 ⊢
  obtain ⟨s2, hs2⟩ : ∃ s2, (if tm = [83] then s1 else none) = s2 := ⟨_, rfl⟩
  rw [hs2]
  have hn2 := fun w' (h' : Rd w' R B s2) => number_rd R B s2 0 60 w' h' (by omega)
  have hn60 := numF_le s2 0 60
  rw [show ((60 : Nat) : Int) = 60 from rfl] at hn60
  obtain ⟨n, s3, hE3⟩ : ∃ n s, numF s2 0 60 = (n, s) := ⟨_, _, rfl⟩
  rw [hE3] at hn2 hn60 ⊢
  simp only at hn2 hn60 ⊢
  have hri := fun w' (h' : Rd w' R B s3) (hB' : B ≤ w'.heap.size) => rising_rd R B s3 n 99999 w' h' (by omega) (by omega) (by omega) hB'
  have hidl := riseN_len 99999 s3 n
  obtain ⟨ids, le, s4, hE4⟩ : ∃ l le s, riseN 99999 s3 n = (l, le, s) := ⟨_, _, _, rfl⟩
  rw [hE4] at hri hidl ⊢
  simp only at hri hidl ⊢
  have hn5 := fun w' (h' : Rd w' R B s4) => number_rd R B s4 0 3600 w' h' (by omega)
  have hm36 := numF_le s4 0 3600
  rw [show ((3600 : Nat) : Int) = 3600 from rfl] at hm36
  obtain ⟨m, s5, hE5⟩ : ∃ n s, numF s4 0 3600 = (n, s) := ⟨_, _, rfl⟩
  rw [hE5] at hn5 hm36 ⊢
  simp only at hn5 hm36 ⊢
  have htl := termN_len ids.length ([], 0, no, s5)
  have htc := termN_c ids.length (by omega) ([], 0, no, s5)
  simp only [List.length_nil, Nat.zero_add] at htl htc
  have HH := hide h
  have Ht1 := hide ht1
  have Hs2 := hide hs2
  have Hn2 := hide hn2
  have Hri := hide hri
  have Hn5 := hide hn5
  have Htl := hide htl
  have Htc := hide htc
  have Hidl := hide hidl
  clear h ht1 hs2 hn2 hri hn5 hE1 hE3 hE4 hE5 hb x0 y0 htl htc hidl
  go_enter Tryz.func62, Tryz.ntmps62
  go_wp2_with fail
  obtain ⟨W0, hW0⟩ : ∃ W0, w.alloc (.cells #[.slice none 0 0, .slice none 0 0, .map none] 105) = W0 := ⟨_, rfl⟩
  rw [hW0]
  have k0 : Kp [] w W0 := by rw [← hW0]; exact (Kp.refl _ _).alloc _
  have hT0 : W0.heap[w.heap.size]? = some (.cells #[.slice none 0 0, .slice none 0 0, .map none] 105 (0, 0)) := by rw [← hW0]; exact heap_alloc_new w _
  have hsz0 : W0.heap.size = w.heap.size + 1 := by rw [← hW0]; simp
  have hR0 := HH.out.kp k0 (by simp) (by simp)
  have HT0 := hide hT0
  clear hT0 hW0
  refine (Ht1.out W0 hR0).mono ?_
  rintro e w1 ⟨rfl, hr1, hk1⟩
  have HR1 := hide hr1
  clear hr1 hR0
  by_cases htm : tm = [83]
  case' pos =>
    subst htm
    go_wp2_with fail
    obtain ⟨w2, hw2⟩ : ∃ w2, w2 = w1 := ⟨_, rfl⟩
    subst hw2
    have HR2 : Hid (Rd w2 R B s2) := by
      have e := Hs2.out
      rw [if_pos (by simp)] at e
      rw [← e]; exact HR1.out
    have hk2 := hk1
  case' neg =>
    have hne : (tm == [83]) = false := by simpa using htm
    go_wp2_with fail
    refine (fail_any R B hRB _ _ w1 (Classical.choose_spec (Classical.choose_spec HR1.out.block))).mono ?_
    rintro e w2 ⟨rfl, hr2, hk2'⟩
    have HR2 : Hid (Rd w2 R B s2) := by
      have e := Hs2.out
      rw [if_neg htm] at e
      rw [← e]; exact hr2
    have hk2 := hk1.next hk2'
    clear hr2 hk2' hne
    go_wp2_with fail
  all_goals
    have hk02 : Kp [R] w w2 := k0.mono (by simp) |>.next hk2
    have hT2 := hk2.heap HT0.out (by simp; omega)
    have hsz2 := hk2.size
    obtain ⟨W3, hW3⟩ : ∃ W3, (w2.alloc (.map #[] 0)).alloc (.cells #[.slice none 0 0, .slice none 0 0, .map (some w2.heap.size)] 105) = W3 := ⟨_, rfl⟩
    rw [hW3]
    have k3 : Kp [] w2 W3 := by rw [← hW3]; exact ((Kp.refl _ _).alloc _).alloc _
    have hT3 : W3.heap[w2.heap.size + 1]? = some (.cells #[.slice none 0 0, .slice none 0 0, .map (some w2.heap.size)] 105 (0, 0)) := by
      rw [← hW3]
      have := heap_alloc_new (w2.alloc (.map #[] 0)) (.cells #[.slice none 0 0, .slice none 0 0, .map (some w2.heap.size)] 105)
      simpa using this
    have hM3 : MapIs W3 w2.heap.size 0 no := by
      have := mapIs_made w2
      refine MapIs.kp (S := []) this ?_ (by simp)
      rw [← hW3]; exact (Kp.refl _ _).alloc _
    have hsz3 : W3.heap.size = w2.heap.size + 2 := by rw [← hW3]; simp
    have hR3 := HR2.out.kp k3 (by simp) (by simp)
    have hT03 := k3.heap hT2 (by simp)
    have k03 : Kp [R] w W3 := hk02.next (k3.mono (by simp))
    have HT3 := hide hT3
    have HM3 := hide hM3
    have HT03 := hide hT03
    clear hT3 hM3 hT03 hT2 hW3 k3 HT0
    refine (Hn2.out W3 hR3).mono ?_
    rintro e w4 ⟨rfl, hr4, hk4⟩
    have HR4 := hide hr4
    have hsz4 := hk4.size
    clear hr4 hR3
    go_wp2_with fail
    refine (Hri.out w4 HR4.out (by omega)).mono ?_
    rintro e w5 ⟨v, rfl, hv5, hr5, hk5⟩
    have hk35 := hk4.next hk5
    have hT5 := hk35.heap HT3.out (by simp; omega)
    have hM5 := HM3.out.kp hk35 (by simp; omega)
    have hT05 := hk35.heap HT03.out (by simp; omega)
    have hsz5 := hk5.size
    obtain ⟨d0, d1, d2, gz0, gz1, gz2⟩ := tb_cells hT5
    obtain ⟨av, cv, ev, _⟩ := owns_forms hv5
    subst ev
    obtain ⟨W6, hW6⟩ : ∃ W6, w5.setCell ⟨w2.heap.size + 1, 0, none⟩ (.slice av n cv) = W6 := ⟨_, rfl⟩
    have k6 : Kp [w2.heap.size + 1] w5 W6 := by rw [← hW6]; exact (Kp.refl _ _).setCell (.inl (by simp)) _
    have hT6 : W6.heap[w2.heap.size + 1]? = some (.cells #[.slice av n cv, .slice none 0 0, .map (some w2.heap.size)] 105 (0, 0)) := by
      rw [← hW6, heap_setCell_same w5 (w2.heap.size + 1) 0 _ 105 (.slice av n cv) hT5]; rfl
    have ht6 : Tabl W6 (w2.heap.size + 1) B ids [] w2.heap.size 0 no (.slice av n cv) (.slice none 0 0) := by
      refine ⟨hT6, ?_, World.ownsRow_nil _ _ _ _, hM5.kp k6 (by simp), by omega, by omega⟩
      have h1 := k6.owns hv5 (fun g hg hx => by simp at hx; have := (hv5.lt g hg).1; omega)
      rw [Hidl.out]
      refine ⟨h1.1, ?_⟩
      rcases h1.2 with h | ⟨g, cap, cur, e, hb, rest⟩
      · exact .inl h
      · exact .inr ⟨g, cap, cur, e, by omega, rest⟩
    have hR6 := hr5.kp k6 (by simp; omega) (by simp; omega)
    have hT06 := k6.heap hT05 (by simp; omega)
    have hsz6 := k6.size
    have k06 : Kp [R] w W6 := (k03.next hk35).trans k6 (by simp; omega)
    have HT6 := hide ht6
    have HR6 := hide hR6
    have HT06 := hide hT06
    clear hT5 hM5 hT05 hv5 hr5 hT6 ht6 hR6 hT06 HT3 HM3 HT03 HR4
    go_wp2_with fail
    clear hW6 d0 d1 d2 gz0 gz1 gz2
    refine (Hn5.out W6 HR6.out).mono ?_
    rintro e w7 ⟨rfl, hr7, hk7⟩
    have hb6 := HR6.out.block
    have ht7 : Tabl w7 (w2.heap.size + 1) B ids [] w2.heap.size 0 no (.slice av n cv) (.slice none 0 0) := HT6.out.kp hk7 (HT6.out.map.kp hk7 (by simp; omega)) (by simp; omega) (fun x hx => by simp at hx; subst hx; exact owns_ne HT6.out.ids (Classical.choose_spec (Classical.choose_spec hb6)) (by decide)) (fun x hx => by simp [Value.ownBlock])
    have hT07 := hk7.heap HT06.out (by simp; omega)
    have k07 : Kp [R] w w7 := k06.next hk7
    have hsz7 := hk7.size
    have HR7 := hide hr7
    have HT7 := hide ht7
    have HT07 := hide hT07
    clear hr7 ht7 hT07 HR6 HT6 HT06 hb6
    go_wp2_with fail
    go_loopw [18] (fun kv wr => ∃ (k : Nat) (tv : Value), k ≤ m ∧ kv = .int .i64 k ∧ Rd wr R B (termN ids.length ([], 0, no, s5) k).2.2.2 ∧ Tabl wr (w2.heap.size + 1) B ids (termN ids.length ([], 0, no, s5) k).1 w2.heap.size (termN ids.length ([], 0, no, s5) k).2.1 (termN ids.length ([], 0, no, s5) k).2.2.1 (.slice av n cv) tv ∧ wr.heap[w.heap.size]? = some (.cells #[.slice none 0 0, .slice none 0 0, .map none] 105 (0, 0)) ∧ B ≤ wr.heap.size ∧ Below B w wr) (fun kv _ => m - (intOf kv).toNat)
    case atStart => exact ⟨0, _, by omega, rfl, HR7.out, HT7.out, HT07.out, by omega, k07.below hBw (by simpa using hRB)⟩
    case round =>
      clear HR7 HT7 HT07 k07
      obtain ⟨k, tv, hk, rfl, hr, htb, hT0, hBr, hbel⟩ := hrel
      by_cases hlt : k < m
      · have hlk := Htl.out k
        have hck := Htc.out k
        have hstep : Hid (termN ids.length ([], 0, no, s5) (k + 1) = termF ids.length (termN ids.length ([], 0, no, s5) k)) := rfl
        generalize termN ids.length ([], 0, no, s5) k = x at *
        obtain ⟨ts, c', f', s'⟩ := x
        simp only at hr htb hlk hck
        have hP := term_rd R B (w2.heap.size + 1) w2.heap.size c' ids ts f' (.slice av n cv) tv s' wr hr htb (by rw [Hidl.out]; exact hn60) (by omega) (by omega) hBr
        have HP := hide hP
        have HT0 := hide hT0
        clear hP hr htb hT0
        go_wp2_with fail
        refine HP.out.mono ?_
        rintro e w8 ⟨tv', rfl, hr8, ht8, hk8⟩
        have hT8 := hk8.heap (by simp; omega) HT0.out (by decide)
        have hsz8 := hk8.size
        have HR8 := hide hr8
        have HT8 := hide ht8
        have HT08 := hide hT8
        clear hr8 ht8 hT8
        go_wp2_with fail
        go_roundw
        case rel =>
          refine ⟨k + 1, tv', by omega, by go_num, ?_, ?_, HT08.out, by omega, hbel.trans (hk8.below hBr (by simp; omega) (Nat.le_refl _))⟩
          · rw [hstep.out]; exact HR8.out
          · rw [hstep.out]; exact HT8.out
        case measure => simp [intOf]; omega
      · have ek : k = m := by omega
        subst ek
        obtain ⟨b0, b1, b2, _, _, _⟩ := tb_cells htb.blk
        obtain ⟨e0, e1, e2, fz0, fz1, fz2⟩ := tb_cells hT0
        obtain ⟨at', ct, et, _⟩ := owns_forms htb.terms
        subst et
        have HR := hide hr
        have HTB := hide htb
        have HT0 := hide hT0
        clear hr htb hT0
        go_wp2_with fail
        have ks : Kp [w.heap.size] wr (((wr.setCell ⟨w.heap.size, 0, none⟩ (.slice av n cv)).setCell ⟨w.heap.size, 1, none⟩ (.slice at' (termN ids.length ([], 0, no, s5) k).1.length ct)).setCell ⟨w.heap.size, 2, none⟩ (.map (some w2.heap.size))) := (((Kp.refl _ _).setCell (.inl (by simp)) _).setCell (.inl (by simp)) _).setCell (.inl (by simp)) _
        refine bodyPost_ret (v := .agg #[.slice av n cv, .slice at' (termN ids.length ([], 0, no, s5) k).1.length ct, .map (some w2.heap.size)]) (by simp [results, Tryz.results62, go_sem, e0, e1, e2]) rfl ⟨w2.heap.size + 1, w2.heap.size, _, _, rfl, ?_, ?_, ?_⟩
        · exact HR.out.kp ks (by simp; omega) (by simpa using hBw)
        · refine HTB.out.kp ks (HTB.out.map.kp ks (by simp; omega)) (by simp; omega) (fun x hx => ?_) (fun x hx => ?_)
          · simp at hx; subst hx; exact owns_ne HTB.out.ids HT0.out (by decide)
          · simp at hx; subst hx; exact owns_ne HTB.out.terms HT0.out (by decide)
        · exact hbel.trans (ks.below hBr (by simpa using hBw))
end Go.Proofs.YtnffagpdnklnkaaGreatDoor.Pak
