import Derived.Test.YtnffagpdnklnkaaGreatDoorV31
import Derived.Test.YtnffagpdnklnkaaGreatDoorV19
import Derived.Test.YtnffagpdnklnkaaGreatDoorV28
set_option linter.unusedVariables false
set_option linter.unusedSimpArgs false
set_option maxRecDepth 8000
namespace Go.Proofs.YtnffagpdnklnkaaGreatDoor.Pak
open Go.RowKit Go.Proofs.YtnffagpdnklnkaaGreatDoor Go.Proofs.YtnffagpdnklnkaaGreatDoor.Spl SiftM
theorem idmY (id : Int) (h1 : (0 : Int) ≤ id) (h2 : id ≤ 99999) (w : World) : Calls Tryz.prog 107 #[.int .i64 id] w fun e w' => e = .returned (.bool true) ∧ w' = w := by
  go_enter Tryz.func107, Tryz.ntmps107
  go_wp2_with fail
  go_ret
  exact ⟨rfl, rfl⟩
theorem idmN (id : Int) (h : id < 0 ∨ 99999 < id) (w : World) : Calls Tryz.prog 107 #[.int .i64 id] w fun e w' => e = .returned (.bool false) ∧ w' = w := by
  by_cases h1 : (0 : Int) ≤ id
  · have h2 : ¬ id ≤ 99999 := by omega
    go_enter Tryz.func107, Tryz.ntmps107
    go_wp2_with fail
    go_ret
    exact ⟨rfl, rfl⟩
  · go_enter Tryz.func107, Tryz.ntmps107
    go_wp2_with fail
    go_ret
    exact ⟨rfl, rfl⟩
theorem hasP (X B id : Nat) (O : List Nat) (s : PSt) (w : World) (h : PIs w X B O s) (hid : id ≤ 99999) :
    Calls Tryz.prog 109 #[.pointer (some ⟨X, 0, none⟩), .int .i64 (id : Int)] w fun e w' => e = .returned (.bool (decide (id ∈ s.abs.ids))) ∧ Kp [] w w' := by
  obtain ⟨x0, x6, x7, x8, x9, x10, xf⟩ := px_cells h
  have := has_any X B id s.hb (homL s.Ps).length s.gv s.G s.gs (homF s.Ps) w x7 x9 h.gath h.sort (by have := h.all60; omega) h.hom (by omega)
  have e : (decide (id ∈ s.G.map Prod.fst) || (homF s.Ps id).isSome) = decide (id ∈ s.abs.ids) := by
    rw [homF_isSome, abs_ids, Bool.eq_iff_iff]
    simp only [Bool.or_eq_true, decide_eq_true_eq, List.mem_append]
  rw [e] at this
  exact this
theorem px_down {w : World} {X B : Nat} {O : List Nat} {s : PSt} (h : PIs w X B O s) : w.cell? ⟨X, 6, none⟩ = some (.bool false) := (px_cells h).2.1

set_option maxHeartbeats 4000000 in
/-- The program's Delete. -/
theorem del_any (X B : Nat) (O : List Nat) (s : PSt) (idI : Int) (w : World) (h : PIs w X B O s) :
    Calls Tryz.prog 70 #[.pointer (some ⟨X, 0, none⟩), .int .i64 idI] w fun e w' => e = .returned (.int .i64 (s.abs.delE idI)) ∧ ∃ s', PIs w' X B (grow O w w') s' ∧ s'.abs = s.abs.del idI ∧ Rest s s' ∧ Kp O w w' := by
  have x6 := px_down h
  have hself : ∀ (E : Int), s.abs.delE idI = E → E ≠ 0 → ∀ w', Kp [] w w' → (∃ s', PIs w' X B (grow O w w') s' ∧ s'.abs = s.abs.del idI ∧ Rest s s' ∧ Kp O w w') := by
    intro E hE hne w' k
    refine ⟨s, (h.kp k (by simp)).more (fun g hg => mem_grow.2 (.inl hg)), ?_, Rest.refl _, k.mono (by simp)⟩
    unfold DSt.del
    rw [if_neg (by rw [hE]; exact hne)]
  by_cases hr1 : idI < 0 ∨ 99999 < idI
  · have hE : s.abs.delE idI = 3 := by unfold DSt.delE; rw [if_pos hr1]
    have HS := hide (hself 3 hE (by decide) w (Kp.refl _ _))
    rw [hE]
    have hmay := idmN idI hr1 w
    clear h hself hE hr1
    go_enter Tryz.func70, Tryz.ntmps70
    go_wp2_with fail
    refine hmay.mono ?_
    rintro e w1 ⟨rfl, rfl⟩
    go_wp2_with fail
    go_ret
    exact ⟨rfl, HS.out⟩
  · obtain ⟨id, rfl⟩ : ∃ id : Nat, idI = (id : Int) := ⟨idI.toNat, by omega⟩
    have hid : id ≤ 99999 := by omega
    have hhas := hasP X B id O s w h hid
    have hmay := idmY (id : Int) (by omega) (by omega) w
    obtain ⟨hs, hhs⟩ : ∃ hs, decide (id ∈ s.abs.ids) = hs := ⟨_, rfl⟩
    rw [hhs] at hhas
    have hE : s.abs.delE id = if hs = false then 6 else 0 := by
      unfold DSt.delE
      rw [if_neg hr1, Int.toNat_natCast, ← hhs]
      simp
    have HH := hide h
    have HHAS := hide hhas
    have HSELF := hide hself
    have HM := hide hmay
    clear h hself hhas hhs hmay
    cases hs
    · have hE6 : s.abs.delE id = 6 := by rw [hE]; rfl
      have HE := hide hE6
      rw [hE6]
      clear hE hE6
      go_enter Tryz.func70, Tryz.ntmps70
      go_wp2_with fail
      refine HM.out.mono ?_
      rintro e w1 ⟨rfl, rfl⟩
      go_wp2_with fail
      refine HHAS.out.mono ?_
      rintro e w1 ⟨rfl, k1⟩
      go_wp2_with fail
      go_ret
      exact ⟨rfl, HSELF.out 6 HE.out (by decide) w1 k1⟩
    · have hE0 : s.abs.delE id = 0 := by rw [hE]; rfl
      have HE := hide hE0
      rw [hE0]
      clear hE hE0
      go_enter Tryz.func70, Tryz.ntmps70
      go_wp2_with fail
      refine HM.out.mono ?_
      rintro e w1 ⟨rfl, rfl⟩
      go_wp2_with fail
      refine HHAS.out.mono ?_
      rintro e w1 ⟨rfl, k1⟩
      have hi1 := HH.out.kp k1 (by simp)
      have hgone := drop_any X B id O s w1 hi1 hid
      clear hi1
      go_wp2_with fail
      refine hgone.mono ?_
      rintro e w2 ⟨rfl, s2, hi2, ha2, hre, k2⟩
      have HI2 := hide hi2
      have HA2 := hide ha2
      clear hi2 hgone ha2
      go_wp2_with fail
      go_ret
      refine ⟨rfl, s2, HI2.out.more ?_, ?_, hre, (k1.mono (by simp)).next k2⟩
      · intro g hg
        rcases mem_grow.1 hg with h1 | h1
        · exact mem_grow.2 (.inl h1)
        · exact mem_grow.2 (.inr ⟨Nat.le_trans k1.size h1.1, h1.2⟩)
      · rw [HA2.out]
        unfold DSt.del
        rw [if_pos HE.out, Int.toNat_natCast]
set_option maxHeartbeats 4000000 in
/-- The program's Flush. -/
theorem Flush_any (X B : Nat) (O : List Nat) (s : PSt) (w : World) (h : PIs w X B O s) (hTab : Tab64 w) (hB0 : 1 < B) (hnx : s.next < 1000000) :
    Calls Tryz.prog 30 #[.pointer (some ⟨X, 0, none⟩)] w fun e w' => e = .returned (.tuple #[.bool (!decide (s.abs.T = [])), .int .i64 0]) ∧ ∃ s', PIs w' X B (grow O w w') s' ∧ s'.abs = s.abs.flush ∧ Rest s s' ∧ Kp O w w' := by
  have x6 := px_down h
  have hf := flush_any X B O s w h hTab hB0 hnx
  clear h hTab
  go_enter Tryz.func30, Tryz.ntmps30
  go_wp2_with fail
  refine hf.mono ?_
  rintro e w1 ⟨rfl, hr⟩
  have HR := hide hr
  clear hf hr
  go_wp2_with fail
  go_ret2
  exact ⟨rfl, HR.out⟩
theorem kp_of_below {w w' : World} (h : Below w.heap.size w w') : Kp [] w w' := Kp.of_below [] h
/-- The same index, with its loose texts in the order of their ids. -/
def DSt.srt (d : DSt) : DSt := { d with T := sortX d.T }
theorem ins_perm (T : List Tx) (i : Nat) (t : Tx) : (insAt T i t).Perm (T ++ [t]) := by
  unfold insAt
  have h : ((T.take i ++ [t]) ++ T.drop i).Perm (T.take i ++ T.drop i ++ [t]) := by
    rw [List.append_assoc, List.append_assoc]
    exact (List.perm_append_comm (l₁ := [t]) (l₂ := T.drop i)).append_left _
  rw [List.take_append_drop] at h
  exact h
theorem mark_live (id : Nat) (t : DSg) : (t.mark id).live = t.live.filter fun x => !decide (x.1 = id) := by
  obtain ⟨num, T, fl⟩ := t
  unfold DSg.live DSg.mark
  simp only
  have key : ∀ (T : List Tx) (fl : List Bool) (f : Nat → Bool → Bool), (∀ j b, (h : j < T.length) → f j b = (b || decide (T[j].1 = id))) → ((T.zip (fl.mapIdx f)).filter fun z => !z.2).map Prod.fst = (((T.zip fl).filter fun z => !z.2).map Prod.fst).filter fun x => !decide (x.1 = id) := by
    intro T
    induction T with
    | nil => intro fl f _; simp
    | cons x r ih =>
      intro fl f hf
      cases fl with
      | nil => simp
      | cons b bs =>
        have h0 := hf 0 b (by simp)
        have h1 := ih bs (fun j => f (j + 1)) (fun j b h => hf (j + 1) b (by simpa using h))
        rw [List.mapIdx_cons, List.zip_cons_cons, List.zip_cons_cons, List.filter_cons, List.filter_cons]
        rw [h0]
        simp only [List.getElem_cons_zero]
        cases b
        · by_cases hx : x.1 = id
          · simp [hx]; exact h1
          · simp [hx]; exact h1
        · simp; exact h1
  unfold markF
  refine key T fl _ ?_
  intro j b h
  simp [h]
theorem gone_all (d : DSt) (id : Nat) : (d.gone id).all = d.all.filter fun x => !decide (x.1 = id) := by
  unfold DSt.all DSt.gone
  simp only [List.filter_append]
  congr 1
  generalize d.L = L
  induction L with
  | nil => rfl
  | cons t r ih => simp only [List.map_cons, List.flatMap_cons, List.filter_append, ih, mark_live]
theorem gone_ids (d : DSt) (id : Nat) : id ∉ (d.gone id).ids := by
  unfold DSt.ids
  rw [gone_all]
  intro h
  obtain ⟨t, ht, e⟩ := List.mem_map.1 h
  have := (List.mem_filter.1 ht).2
  simp [e] at this
theorem gone_less (d : DSt) (id : Nat) (hr : ¬ (id ∉ d.ids ∧ 60 ≤ d.all.length)) (h : d.all.length ≤ 60) : (d.gone id).all.length < 60 := by
  rw [gone_all]
  by_cases hin : id ∈ d.ids
  · have : (d.all.filter fun x => !decide (x.1 = id)).length < d.all.length := by
      obtain ⟨t, ht, e⟩ := List.mem_map.1 hin
      exact List.length_filter_lt_length_iff_exists.2 ⟨t, ht, by simp [e]⟩
    omega
  · have h1 : ¬ 60 ≤ d.all.length := fun h6 => hr ⟨hin, h6⟩
    have := List.length_filter_le (fun x : Tx => !decide (x.1 = id)) d.all
    omega
theorem sortX_nil : sortX [] = [] := by simp [sortX]
theorem sortX_perm (T : List Tx) : (sortX T).Perm T := List.mergeSort_perm _ _
theorem sortX_ne {T : List Tx} (h : T ≠ []) : sortX T ≠ [] := fun e => h (by
  have := (sortX_perm T).length_eq
  rw [e] at this
  exact List.length_eq_zero_iff.1 this.symm)
theorem sortX_le (T : List Tx) : (sortX T).Pairwise fun a b => decide (a.1 ≤ b.1) = true :=
  List.pairwise_mergeSort (fun a b c h1 h2 => by simp at h1 h2 ⊢; omega) (fun a b => by simp; omega) _
theorem sortX_sortX (T : List Tx) : sortX (sortX T) = sortX T := by
  unfold sortX
  exact List.mergeSort_of_pairwise (sortX_le T)
theorem srt_flush (d : DSt) (h : d.T ≠ []) : d.srt.flush = d.flush.srt := by
  unfold DSt.flush
  have e : d.srt.T ≠ [] := sortX_ne h
  rw [if_neg e, if_neg h]
  unfold DSt.srt
  simp only
  rw [sortX_sortX, (sortX_perm d.T).length_eq, sortX_nil]
theorem Kp.drw (w : World) (S : List Nat) : Kp S w w.drew := ⟨rfl, rfl, rfl, Nat.le_refl _, fun _ _ _ => rfl⟩
set_option maxHeartbeats 4000000 in
/-- The program's Add. -/
theorem add_any (X B : Nat) (O : List Nat) (s : PSt) (idI : Int) (b : ByteArray) (w : World) (h : PIs w X B O s) (hO : ∀ g ∈ O, g < w.heap.size) (hO0 : 1 ∉ O) (hTab : Tab64 w) (hB0 : 1 < B) (hnx : s.next < 1000000) (hbf : s.G.length < s.buf) (hbs : b.size ≤ 140737488355328) :
    Calls Tryz.prog 69 #[.pointer (some ⟨X, 0, none⟩), .int .i64 idI, .string b] w fun e w' => e = .returned (.int .i64 (s.abs.addE idI b)) ∧ ∃ s', PIs w' X B (grow O w w') s' ∧ s'.abs = (s.abs.add idI b).srt ∧ Rest s s' ∧ Kp O w w' := by
  have x6 := px_down h
  have hsrt : s.abs.srt = s.abs := by
    unfold DSt.srt
    show ({ s.abs with T := sortX s.G } : DSt) = _
    rw [← sortX_eq (List.Perm.refl s.G) h.sort]
    rfl
  have hself : ∀ (E : Int), s.abs.addE idI b = E → E ≠ 0 → ∀ w', Kp [] w w' → (∃ s', PIs w' X B (grow O w w') s' ∧ s'.abs = (s.abs.add idI b).srt ∧ Rest s s' ∧ Kp O w w') := by
    intro E hE hne w' k
    refine ⟨s, (h.kp k (by simp)).more (fun g hg => mem_grow.2 (.inl hg)), ?_, Rest.refl _, k.mono (by simp)⟩
    unfold DSt.add
    rw [if_neg (by rw [hE]; exact hne), hsrt]
  by_cases hr1 : idI < 0 ∨ 99999 < idI
  · have hE : s.abs.addE idI b = 3 := by unfold DSt.addE; rw [if_pos hr1]
    have HS := hide (hself 3 hE (by decide) w (Kp.refl _ _))
    rw [hE]
    have hmay := idmN idI hr1 w
    clear h hself hE hr1 hsrt hTab
    go_enter Tryz.func69, Tryz.ntmps69
    go_wp2_with fail
    refine hmay.mono ?_
    rintro e w ⟨rfl, rfl⟩
    go_wp2_with fail
    go_ret
    exact ⟨rfl, HS.out⟩
  · obtain ⟨id, rfl⟩ : ∃ id : Nat, idI = (id : Int) := ⟨idI.toNat, by omega⟩
    have hid : id ≤ 99999 := by omega
    have hmay := idmY (id : Int) (by omega) (by omega) w
    by_cases hr2 : 120 < b.size
    · have hE : s.abs.addE id b = 4 := by unfold DSt.addE; rw [if_neg hr1, if_pos hr2]
      have HS := hide (hself 4 hE (by decide) w (Kp.refl _ _))
      rw [hE]
      have hwd := words_long b w hr2
      clear h hself hE hr1 hsrt hTab
      go_enter Tryz.func69, Tryz.ntmps69
      go_wp2_with fail
      refine hmay.mono ?_
      rintro e w ⟨rfl, rfl⟩
      go_wp2_with fail
      refine hwd.mono ?_
      rintro e w ⟨rfl, rfl⟩
      go_wp2_with fail
      go_ret
      exact ⟨rfl, HS.out⟩
    · have hb120 : b.size ≤ 120 := by omega
      have hwd := words_ok b w hb120
      obtain ⟨n, hn⟩ : ∃ n, s.abs.all.length = n := ⟨_, rfl⟩
      obtain ⟨hs, hhs⟩ : ∃ hs, decide (id ∈ s.abs.ids) = hs := ⟨_, rfl⟩
      have hal := abs_len s
      have h60 := h.all60
      have hbe : s.abs.addE id b = if hs = false ∧ 60 ≤ n then 5 else 0 := by
        unfold DSt.addE
        rw [if_neg hr1, if_neg hr2, hn, Int.toNat_natCast, ← hhs]
        simp
      have hhas := fun (w1 : World) (k : Kp [] w w1) => hasP X B id O s w1 (h.kp k (by simp)) hid
      obtain ⟨ag, cg, eg, _⟩ := owns_forms h.gath.row
      have hsize := fun (w1 : World) (k : Kp [] w w1) => by
        have h1 := h.kp k (by simp)
        obtain ⟨y0, y6, y7, y8, y9, y10, yf⟩ := px_cells h1
        rw [eg] at y7
        exact size_any X B s.hb (homL s.Ps).length s.G.length ag cg (homF s.Ps) w1 y7 y9 h1.hom (by omega) (by omega)
      rw [hhs] at hhas
      rw [← hal, hn] at hsize
      have HH := hide h
      have HHAS := hide hhas
      have HSZ := hide hsize
      have HSELF := hide hself
      have HN := hide hn
      have HHS := hide hhs
      have HTAB := hide hTab
      have HO := hide hO
      have HM := hide hmay
      have HAL := hide hal
      have HSRT := hide hsrt
      by_cases hfull : hs = false ∧ 60 ≤ n
      · have hE : s.abs.addE id b = 5 := by rw [hbe, if_pos hfull]
        have HE := hide hE
        rw [hE]
        obtain ⟨rfl, hf60⟩ := hfull
        have c4 : n = 60 := by omega
        subst c4
        clear h hself hhas hsize hn hhs hTab hbe hE hal hO hmay hsrt eg
        go_enter Tryz.func69, Tryz.ntmps69
        go_wp2_with fail
        refine HM.out.mono ?_
        rintro e w ⟨rfl, rfl⟩
        go_wp2_with fail
        refine hwd.mono ?_
        rintro e w1 ⟨v, rfl, hv, hbl⟩
        have k1 : Kp [] w w1 := kp_of_below hbl
        clear hv hbl
        go_wp2_with fail
        refine (HHAS.out w1 k1).mono ?_
        rintro e w2 ⟨rfl, k2⟩
        have k02 := k1.next k2
        go_wp2_with fail
        refine (HSZ.out w2 k02).mono ?_
        rintro e w3 ⟨rfl, k3⟩
        go_wp2_with fail
        go_ret
        exact ⟨rfl, HSELF.out 5 HE.out (by decide) w3 (k02.next k3)⟩
      · have hE : s.abs.addE id b = 0 := by rw [hbe, if_neg hfull]
        have HE := hide hE
        rw [hE]
        have hroom : ¬ (id ∉ s.abs.ids ∧ 60 ≤ s.abs.all.length) := by
          rintro ⟨h1, h2⟩
          refine hfull ⟨?_, by omega⟩
          rw [← hhs]; simpa using h1
        have hless := gone_less s.abs id hroom (by omega)
        have HLESS := hide hless
        have HFEW := hide (sp_few b hb120)
        have hcond : (hs = true) ∨ (hs = false ∧ ((n : Int) == 60) = false) := by
          cases hs
          · right; exact ⟨rfl, by rw [beq_eq_false_iff_ne]; intro h6; exact hfull ⟨rfl, by omega⟩⟩
          · exact .inl rfl
        have hwo : ∀ w1 : World, Kp [] w w1 → Calls Tryz.prog 111 #[.pointer (some ⟨X, 0, none⟩), .int .i64 (id : Int)] w1 fun e w' => e = .returned (.tuple #[]) ∧ ∃ s', PIs w' X B (grow O w1 w') s' ∧ s'.abs = s.abs.gone id ∧ Rest s s' ∧ Kp O w1 w' := fun w1 k => drop_any X B id O s w1 (h.kp k (by simp)) hid
        have HDROP := hide hwo
        clear h hself hhas hsize hn hhs hTab hbe hE hal hO hmay hsrt eg hroom hless hfull hwo h60
        rcases hcond with rfl | ⟨rfl, c4⟩
        case' inl =>
          go_enter Tryz.func69, Tryz.ntmps69
          go_wp2_with fail
          refine HM.out.mono ?_
          rintro e w ⟨rfl, rfl⟩
          go_wp2_with fail
          refine hwd.mono ?_
          rintro e w1 ⟨v, rfl, hv, hbl⟩
          have k1 : Kp [] w w1 := kp_of_below hbl
          have HV := hide hv
          clear hv hbl
          go_wp2_with fail
          refine (HHAS.out w1 k1).mono ?_
          rintro e w3 ⟨rfl, k13⟩
          have k03 := k1.next k13
          go_wp2_with fail
        case' inr =>
          go_enter Tryz.func69, Tryz.ntmps69
          go_wp2_with fail
          refine HM.out.mono ?_
          rintro e w ⟨rfl, rfl⟩
          go_wp2_with fail
          refine hwd.mono ?_
          rintro e w1 ⟨v, rfl, hv, hbl⟩
          have k1 : Kp [] w w1 := kp_of_below hbl
          have HV := hide hv
          clear hv hbl
          go_wp2_with fail
          refine (HHAS.out w1 k1).mono ?_
          rintro e w2 ⟨rfl, k2⟩
          have k02 := k1.next k2
          go_wp2_with fail
          refine (HSZ.out w2 k02).mono ?_
          rintro e w3 ⟨rfl, k3⟩
          have k13 := k2.next k3
          have k03 := k1.next k13
          go_wp2_with fail
        all_goals
          refine (HDROP.out w3 k03).mono ?_
          rintro e w4 ⟨rfl, s4, hi4, ha4, hr4, k4⟩
          have hlow : B ≤ w.heap.size := HH.out.low
          have hv1 := HV.out
          have hs1 := k1.size
          have hs3 := k13.size
          have hs4 := k4.size
          have hu4 : w4.ownsRow B 9 1 v (wordsB b).length (strV (wordsB b)) := by
            refine k4.owns (k13.owns (owns_low HV.out hlow) (by simp)) fun g hg hx => ?_
            have := (HV.out.lt g hg).1
            have := HO.out g hx
            omega
          have hun : ∀ g, v.ownBlock = some g → g ∉ grow O w3 w4 := fun g hg hx => by
            have h1 := HV.out.lt g hg
            rcases mem_grow.1 hx with h2 | h2
            · have := HO.out g h2; omega
            · omega
          have hgr : ∀ g, v.ownBlock = some g → w.heap.size ≤ g ∧ g < w1.heap.size := fun g hg => HV.out.lt g hg
          obtain ⟨a, c, rfl, _⟩ := owns_forms hv1
          have hno4 : id ∉ s4.abs.ids := by rw [ha4]; exact gone_ids _ _
          have hle4 : s4.abs.all.length < 60 := by rw [ha4]; exact HLESS.out
          have hgat := gather_any X B id (grow O w3 w4) s4 (wordsB b) a _ c w4 hi4 hu4 hun hid hno4 hle4 ⟨HFEW.out.1, ⟨HFEW.out.2.1, HFEW.out.2.2.1⟩, HFEW.out.2.2.2⟩
          have HI4 := hide hi4
          have HA4 := hide ha4
          have HGR := hide hgr
          clear hi4 ha4 hu4 hun hv1 hno4 hle4 HV hgr
          go_wp2_with fail
          refine hgat.mono ?_
          rintro e w5 ⟨rfl, s5, hi5, ha5, hr5, k5⟩
          have hs5 := k5.size
          have hin5 : ∀ g ∈ grow (grow O w3 w4) w4 w5 ++ (Value.slice a (sp b.size b.data.toList).length c).ownBlock.toList, g ∈ grow O w w5 := by
            intro g hg
            rcases List.mem_append.1 hg with h1 | h1
            · rcases mem_grow.1 h1 with h2 | h2
              · rcases mem_grow.1 h2 with h3 | h3
                · exact mem_grow.2 (.inl h3)
                · exact mem_grow.2 (.inr ⟨by omega, by omega⟩)
              · exact mem_grow.2 (.inr ⟨by omega, h2.2⟩)
            · have := HGR.out g (by simpa using h1)
              exact mem_grow.2 (.inr ⟨by omega, by omega⟩)
          have hi5' := hi5.more hin5
          have k05 : Kp O w w5 := (k03.mono (by simp)).next (kp_grow k4 k5)
          obtain ⟨y0, y6, y7, y8, y9, y10, yf⟩ := px_cells hi5'
          obtain ⟨a5, c5, e5, _⟩ := owns_forms hi5'.gath.row
          obtain ⟨n5, hn5⟩ : ∃ n5, s5.G.length = n5 := ⟨_, rfl⟩
          rw [hn5] at e5
          rw [e5] at y7
          have eG5 : s5.G = insAt s4.G (aheadN s4.G id) (id, wordsB b) := congrArg DSt.T ha5
          have eG4 : s4.G = (s.abs.gone id).T := congrArg DSt.T HA4.out
          have hl5 : n5 = s4.G.length + 1 := by rw [← hn5, eG5, (ins_perm _ _ _).length_eq]; simp
          have hl4 : s4.G.length ≤ s.G.length := by rw [eG4]; exact List.length_filter_le _ _
          have hbu : s5.buf = s.buf := by rw [hr5.1, hr4.1]
          have hnx5 : s5.next = s.next := by
            have h1 : s5.next = s4.next := congrArg DSt.next ha5
            have h2 : s4.next = s.next := congrArg DSt.next HA4.out
            omega
          rw [hbu] at y0
          have hab : Hid (s5.abs = ((s.abs.gone id).put (id, wordsB b)).srt) := by
            show _ = _
            rw [ha5, ← HA4.out]
            unfold DSt.put DSt.srt
            show ({ s4.abs with T := _ } : DSt) = { s4.abs with T := sortX (s4.G ++ [(id, wordsB b)]) }
            rw [← sortX_eq (ins_perm s4.G (aheadN s4.G id) (id, wordsB b)) (by rw [← eG5]; exact hi5.sort)]
          have hlen : Hid (((s.abs.gone id).put (id, wordsB b)).T.length = n5) := by
            show _ = _
            rw [hl5, eG4]; simp [DSt.put]
          have hre : Rest s s5 := hr4.trans (by
            obtain ⟨r1, r2, r3, r4, r5, r6, r7, r8, r9, r10⟩ := hr5
            exact ⟨r1, r2, r3, r4, r5, r6, r7, r8, r9, by rw [r10]; exact KeptP.refl _⟩)
          have hTab5 := hide (HTAB.out.kp k05 hO0)
          have HI5 := hide hi5'
          have HE5 := hide e5
          clear hi5 hi5' ha5 e5 eG5 eG4 y6 y8 y9 y10 hgat
          go_wp2_with fail
          go_region
          by_cases hge : (n5 : Int) = (s.buf : Int)
          · have hfl := flush_any X B _ s5 w5.drew (HI5.out.kp (Kp.drw w5 []) (by simp)) (hTab5.out.kp (Kp.drw w5 []) (by simp)) hB0 (by omega)
            go_wp2_with fail
            refine hfl.mono ?_
            rintro e w7 ⟨rfl, s7, hi7, ha7, hr7, k7⟩
            have HI7 := hide hi7
            have HA7 := hide ha7
            clear hfl hi7 ha7
            go_wp2_with fail
            go_ret
            have k57 : Kp (grow O w w5) w5 w7 := (Kp.drw w5 _).next k7
            refine ⟨rfl, s7, HI7.out.more ?_, ?_, hre.trans hr7, kp_grow k05 k57⟩
            · intro g hg
              rcases mem_grow.1 hg with h1 | h1
              · rcases mem_grow.1 h1 with h2 | h2
                · exact mem_grow.2 (.inl h2)
                · exact mem_grow.2 (.inr ⟨h2.1, Nat.lt_of_lt_of_le h2.2 k57.size⟩)
              · exact mem_grow.2 (.inr ⟨Nat.le_trans k05.size h1.1, h1.2⟩)
            · rw [HA7.out, hab.out]
              unfold DSt.add
              rw [if_pos HE.out, Int.toNat_natCast]
              unfold DSt.add1
              rw [if_pos (by rw [hlen.out]; show s.buf ≤ _; omega)]
              exact srt_flush _ (by simp [DSt.put])
          · go_wp2_with fail
            go_ret
            refine ⟨rfl, s5, HI5.out.kp (Kp.drw w5 []) (by simp), ?_, hre, k05.next (Kp.drw w5 _)⟩
            rw [hab.out]
            unfold DSt.add
            rw [if_pos HE.out, Int.toNat_natCast]
            unfold DSt.add1
            rw [if_neg (by rw [hlen.out]; show ¬ s.buf ≤ _; omega)]
theorem pxC_set3 (s : PSt) (n : Nat) : (pxC s).setIfInBounds 3 (.int .i64 (n : Int)) = pxC { s with last := n } := by
  unfold pxC pxA
  rfl
/-- The draft gets its name. -/
theorem ren_ran (B d M n : Nat) (F : List Fl) (w : World) (hD : DiskIs w B d M F) (hy : (absF F tN).isSome = true) (hn : n ≤ 1000000000000) (hF : F.length < 10000000) :
    Calls Tryz.prog 81 #[.pointer (some ⟨d, 0, none⟩), .string ⟨#[116]⟩, nmV (comN n)] w fun e w' => e = .returned (.tuple #[]) ∧ Ran w w' B d M F (updD (updD (absF F) tN none) (comN n) (absF F tN)) ∧ Kp [M] w w' := by
  obtain ⟨f, hf, e⟩ := List.mem_map.1 ((absF_is tN).1 hy)
  have h := dren_any B d M F f (comN n) w hD hf (comN_len n hn)
  rw [e] at h
  refine Calls.mono h ?_
  rintro r w' ⟨rfl, hm, k⟩
  obtain ⟨es, ck, em⟩ := hD.map.block
  refine ⟨rfl, ?_, k⟩
  have hl := lack_le F tN
  have hl2 := lack_le (lack F tN) (comN n)
  have hv := k.owns (hD.each f hf) (fun b hb hx => by simp at hx; subst hx; exact owns_ne_objD (hD.each f hf) em hb)
  refine ⟨_, ⟨k.heap hD.blk (by simpa using cells_mapD hD.blk em), hm, fun g hg => ?_, ?_, fun g hg => ?_⟩, ?_, ?_, fun g hg b hb => ?_⟩
  · rcases List.mem_append.1 hg with hg | hg
    · have hgF := (List.mem_filter.1 (List.mem_filter.1 hg).1).1
      exact k.owns (hD.each g hgF) (fun b hb hx => by simp at hx; subst hx; exact owns_ne_objD (hD.each g hgF) em hb)
    · obtain rfl := List.mem_singleton.1 hg
      exact hv
  · rw [List.length_append, List.length_singleton]; omega
  · rcases List.mem_append.1 hg with hg | hg
    · exact hD.small g (List.mem_filter.1 (List.mem_filter.1 hg).1).1
    · obtain rfl := List.mem_singleton.1 hg
      exact hD.small f hf
  · have h1 := absF_put (lack F tN) { f with nm := comN n }
    rw [absF_lack] at h1
    have h2 := absF_mem hD.map.nodup hf
    rw [e] at h2
    rw [h2]
    exact h1
  · rw [List.length_append, List.length_singleton]; omega
  · rcases List.mem_append.1 hg with hg | hg
    · exact .inl ⟨g, (List.mem_filter.1 (List.mem_filter.1 hg).1).1, rfl⟩
    · obtain rfl := List.mem_singleton.1 hg
      exact .inl ⟨f, hf, rfl⟩
theorem Ran.from {w w1 w' : World} {B d M : Nat} {F : List Fl} {A : Dk} (h : Ran w1 w' B d M F A) (hz : w.heap.size ≤ w1.heap.size) : Ran w w' B d M F A := by
  obtain ⟨F', h1, h2, h3, h4⟩ := h.ex
  refine ⟨F', h1, h2, h3, fun f hf g hg => ?_⟩
  rcases h4 f hf g hg with h5 | h5
  · exact .inl h5
  · exact .inr (by omega)
theorem Ran.later {w w' w2 : World} {B d M : Nat} {F : List Fl} {A : Dk} {S : List Nat} (h : Ran w w' B d M F A) (k : Kp S w' w2) (hd : d ∉ S) (hM : M ∉ S) (hS : ∀ x ∈ S, ∀ cs fr, w'.heap[x]? ≠ some (.cells cs 5 fr)) : Ran w w2 B d M F A := by
  obtain ⟨F', h1, h2, h3, h4⟩ := h.ex
  refine ⟨F', h1.kp k hd hM (fun f hf g hg hx => ?_), h2, h3, h4⟩
  rcases (h1.each f hf).2 with ⟨e, _⟩ | ⟨g', cap, cur, e, _, hgg, _⟩
  · rw [e] at hg; simp [Value.ownBlock] at hg
  · rw [e] at hg
    have : g' = g := by simpa [Value.ownBlock] using hg
    subst this
    exact hS g' hx _ _ hgg
set_option maxHeartbeats 1000000 in
/-- conclude. -/
theorem conclude_any (B d M X n : Nat) (F : List Fl) (s : PSt) (w : World) (hX : w.heap[X]? = some (.cells (pxC s) 72 (0, 0))) (hfv : s.fv = pt d) (hD : DiskIs w B d M F) (hy : (absF F tN).isSome = true) (hn : n ≤ 1000000000000) (hT : TabP w) (hF : F.length < 10000000) :
    Calls Tryz.prog 48 #[.pointer (some ⟨X, 0, none⟩), .int .i64 (n : Int)] w fun e w' => e = .returned (.tuple #[]) ∧ Ran w w' B d M F (updD (updD (absF F) tN none) (comN n) (absF F tN)) ∧ w'.heap[X]? = some (.cells (pxC { s with last := n }) 72 (0, 0)) ∧ Kp [M, X] w w' := by
  have x2 : w.cell? ⟨X, 2, none⟩ = some (.pointer (some ⟨d, 0, none⟩)) := by simp [World.cell?, hX, pxC, pxA, hfv, pt]
  have kd : Kp [] w w.drew := (Kp.refl _ _).drewN 1
  have hcn := comN_any n w.drew (hT.kp kd (by simp)) hn
  have HD := hide hD
  have HX := hide hX
  have hXM : X ≠ M := by
    obtain ⟨es, ck, em⟩ := hD.map.block
    exact cells_mapD hX em
  have hXd : d ≠ X := by
    intro e
    have := hD.blk
    rw [e, hX] at this
    simp at this
  clear hD hX
  go_enter Tryz.func48, Tryz.ntmps48
  go_wp2_with fail
  have mixed : Tryz.prog.follows .mixedOrders = true := by kernel_rfl
  refine region_E mixed (fun w' => w'.cell? ⟨X, 2, none⟩ = some (.pointer (some ⟨d, 0, none⟩))) 99 ?_
  have hS0 : w.drew.cell? ⟨X, 2, none⟩ = some (.pointer (some ⟨d, 0, none⟩)) := x2
  refine anyE_tk 0 4 (.pointer (some ⟨X, 0, none⟩)) rfl (Or.inl ⟨by rfl, fun w' hS => by have s1 := hS; go_simp⟩) hS0 ?_
  try simp only [Act.put, List.setIfInBounds_toArray, List.set_cons_zero, List.set_cons_succ]
  refine anyE_tk 1 5 (.pointer (some ⟨X, 0, none⟩)) rfl (Or.inl ⟨by rfl, fun w' hS => by have s1 := hS; go_simp⟩) hS0 ?_
  try simp only [Act.put, List.setIfInBounds_toArray, List.set_cons_zero, List.set_cons_succ]
  refine anyE_tk 2 6 (.pointer (some ⟨X, 2, none⟩)) rfl (Or.inl ⟨by rfl, fun w' hS => by have s1 := hS; go_simp⟩) hS0 ?_
  try simp only [Act.put, List.setIfInBounds_toArray, List.set_cons_zero, List.set_cons_succ]
  refine anyE_tk 3 7 (.pointer (some ⟨d, 0, none⟩)) rfl (Or.inl ⟨by rfl, fun w' hS => by have s1 := hS; go_simp⟩) hS0 ?_
  try simp only [Act.put, List.setIfInBounds_toArray, List.set_cons_zero, List.set_cons_succ]
  refine anyE_tk 4 8 (.int .i64 (n : Int)) rfl (Or.inl ⟨by rfl, fun w' hS => by have s1 := hS; go_simp⟩) hS0 ?_
  try simp only [Act.put, List.setIfInBounds_toArray, List.set_cons_zero, List.set_cons_succ]
  refine anyE_call (i := 5) (o := { dst := some 9, op := _, type := _, pos := _, after := _, guard := _ }) (by kernel_rfl) rfl rfl (by go_simp) hcn ?_
  rintro e w1 ⟨rfl, k1⟩
  have k01 := kd.next k1
  have hS1 : w1.cell? ⟨X, 2, none⟩ = some (.pointer (some ⟨d, 0, none⟩)) := k01.cellv x2 (by simp)
  refine ⟨_, rfl, .inr hS1, ?_⟩
  try simp only [Act.put, List.setIfInBounds_toArray, List.set_cons_zero, List.set_cons_succ]
  have hrn := ren_ran B d M n F w1 (HD.out.kp k01 (by simp) (by simp) (by simp)) hy hn hF
  refine anyE_call (i := 6) (o := { dst := some 10, op := _, type := _, pos := _, after := _, guard := _ }) (by kernel_rfl) rfl rfl (by go_simp) hrn ?_
  rintro e w2 ⟨rfl, hr2, k2⟩
  have hX2 := k2.heap (k01.heap HX.out (by simp)) (by simpa using hXM)
  have hS2 : w2.cell? ⟨X, 2, none⟩ = some (.pointer (some ⟨d, 0, none⟩)) := k2.cellv hS1 (by simpa using hXM)
  refine ⟨_, rfl, .inr hS2, ?_⟩
  try simp only [Act.put, List.setIfInBounds_toArray, List.set_cons_zero, List.set_cons_succ]
  refine anyE_done (by kernel_rfl) ?_ _
  have hz1 := k01.size
  obtain ⟨q3, qf⟩ : w2.cell? ⟨X, 3, none⟩ = some (.int .i64 (s.last : Int)) ∧ w2.frozen? ⟨X, 3, none⟩ = false := by constructor <;> simp [World.cell?, World.frozen?, hX2, pxC, pxA]
  have ks := kp_set w2 X 3 (.int .i64 (n : Int))
  have hfin : (w2.setCell ⟨X, 3, none⟩ (.int .i64 (n : Int))).heap[X]? = some (.cells (pxC { s with last := n }) 72 (0, 0)) := by
    rw [heap_setCell_same w2 X 3 _ 72 _ hX2, pxC_set3]
  have hran : Ran w (w2.setCell ⟨X, 3, none⟩ (.int .i64 (n : Int))) B d M F (updD (updD (absF F) tN none) (comN n) (absF F tN)) := by
    refine (hr2.from (by omega)).later ks (by simpa using hXd) (by simpa using hXM.symm) (fun x hx cs fr h => ?_)
    simp at hx
    subst hx
    rw [hX2] at h
    simp at h
  have kfin : Kp [M, X] w (w2.setCell ⟨X, 3, none⟩ (.int .i64 (n : Int))) := ((k01.mono (by simp)).next (k2.mono (by simp))).next (ks.mono (by simp))
  clear hr2 hX2 hcn hrn
  go_wp2_with fail
  go_end0
  exact ⟨rfl, hran, hfin, kfin⟩
set_option maxHeartbeats 1000000 in
/-- The step with which a commit is done. -/
theorem step5_any (B d M X n x c : Nat) (F : List Fl) (s : PSt) (w : World) (hx : bx w x (pt X)) (hc : w.cell? ⟨c, 0, none⟩ = some (.int .i64 (n : Int))) (hX : w.heap[X]? = some (.cells (pxC s) 72 (0, 0))) (hfv : s.fv = pt d) (hD : DiskIs w B d M F) (hy : (absF F tN).isSome = true) (hn : n ≤ 1000000000000) (hT : TabP w) (hF : F.length < 10000000) :
    Calls Tryz.prog 47 #[pt x, pt c] w fun e w' => e = .returned (.tuple #[]) ∧ Ran w w' B d M F (updD (updD (absF F) tN none) (comN n) (absF F tN)) ∧ w'.heap[X]? = some (.cells (pxC { s with last := n }) 72 (0, 0)) ∧ Kp [M, X] w w' := by
  have kd : Kp [] w w.drew := (Kp.refl _ _).drewN 1
  have h0 := conclude_any B d M X n F s w hX hfv hD hy hn hT hF
  unfold bx at hx
  unfold pt at hx ⊢
  clear hD hX
  go_enter Tryz.func47, Tryz.ntmps47
  go_wp2_with fail
  refine h0.mono ?_
  rintro e w1 ⟨rfl, hr, hX1, k⟩
  clear h0
  go_wp2_with fail
  go_end0
  exact ⟨rfl, hr, hX1, k⟩
end Go.Proofs.YtnffagpdnklnkaaGreatDoor.Pak
