import Derived.Test.YtpdoacfiiledcaaGreatDoorV33
import Derived.Test.YtpdoacfiiledcaaGreatDoorV34
import Derived.Test.YtpdoacfiiledcaaGreatDoorV27
set_option linter.unusedVariables false
set_option linter.unusedSimpArgs false
set_option maxRecDepth 8000
namespace Go.Proofs.YtpdoacfiiledcaaGreatDoor.Pak
open Go.RowKit Go.Proofs.YtpdoacfiiledcaaGreatDoor Go.Proofs.YtpdoacfiiledcaaGreatDoor.Spl SiftM

/-- The same index, with its loose texts in the order of their ids. -/
def DSt.srt (d : DSt) : DSt := { d with T := sortX d.T }
theorem ins_perm (T : List Tx) (i : Nat) (t : Tx) : (insAt T i t).Perm (T ++ [t]) := by
  unfold insAt
  have h : ((T.take i ++ [t]) ++ T.drop i).Perm (T.take i ++ T.drop i ++ [t]) := by
    rw [List.append_assoc, List.append_assoc]
    exact (List.perm_append_comm (l₁ := [t]) (l₂ := T.drop i)).append_left _
  rw [List.take_append_drop] at h
  exact h
theorem mark_live (id : Nat) (t : DSg) : (t.mark id).live = t.live.filter fun x => !decide (x.1 = id) := by
  obtain ⟨num, T, fl⟩ := t
  unfold DSg.live DSg.mark
  simp only
  have key : ∀ (T : List Tx) (fl : List Bool) (f : Nat → Bool → Bool), (∀ j b, (h : j < T.length) → f j b = (b || decide (T[j].1 = id))) → ((T.zip (fl.mapIdx f)).filter fun z => !z.2).map Prod.fst = (((T.zip fl).filter fun z => !z.2).map Prod.fst).filter fun x => !decide (x.1 = id) := by
    intro T
    induction T with
    | nil => intro fl f _; simp
    | cons x r ih =>
      intro fl f hf
      cases fl with
      | nil => simp
      | cons b bs =>
        have h0 := hf 0 b (by simp)
        have h1 := ih bs (fun j => f (j + 1)) (fun j b h => hf (j + 1) b (by simpa using h))
        rw [List.mapIdx_cons, List.zip_cons_cons, List.zip_cons_cons, List.filter_cons, List.filter_cons]
        rw [h0]
        simp only [List.getElem_cons_zero]
        cases b
        · by_cases hx : x.1 = id
          · simp [hx]; exact h1
          · simp [hx]; exact h1
        · simp; exact h1
  unfold markF
  refine key T fl _ ?_
  intro j b h
  simp [h]
theorem gone_all (d : DSt) (id : Nat) : (d.gone id).all = d.all.filter fun x => !decide (x.1 = id) := by
  unfold DSt.all DSt.gone
  simp only [List.filter_append]
  congr 1
  generalize d.L = L
  induction L with
  | nil => rfl
  | cons t r ih => simp only [List.map_cons, List.flatMap_cons, List.filter_append, ih, mark_live]
theorem gone_ids (d : DSt) (id : Nat) : id ∉ (d.gone id).ids := by
  unfold DSt.ids
  rw [gone_all]
  intro h
  obtain ⟨t, ht, e⟩ := List.mem_map.1 h
  have := (List.mem_filter.1 ht).2
  simp [e] at this
theorem gone_less (d : DSt) (id : Nat) (hr : ¬ (id ∉ d.ids ∧ 60 ≤ d.all.length)) (h : d.all.length ≤ 60) : (d.gone id).all.length < 60 := by
  rw [gone_all]
  by_cases hin : id ∈ d.ids
  · have : (d.all.filter fun x => !decide (x.1 = id)).length < d.all.length := by
      obtain ⟨t, ht, e⟩ := List.mem_map.1 hin
      exact List.length_filter_lt_length_iff_exists.2 ⟨t, ht, by simp [e]⟩
    omega
  · have h1 : ¬ 60 ≤ d.all.length := fun h6 => hr ⟨hin, h6⟩
    have := List.length_filter_le (fun x : Tx => !decide (x.1 = id)) d.all
    omega
theorem sortX_nil : sortX [] = [] := by simp [sortX]
theorem sortX_perm (T : List Tx) : (sortX T).Perm T := List.mergeSort_perm _ _
theorem sortX_ne {T : List Tx} (h : T ≠ []) : sortX T ≠ [] := fun e => h (by
  have := (sortX_perm T).length_eq
  rw [e] at this
  exact List.length_eq_zero_iff.1 this.symm)
theorem sortX_le (T : List Tx) : (sortX T).Pairwise fun a b => decide (a.1 ≤ b.1) = true :=
  List.pairwise_mergeSort (fun a b c h1 h2 => by simp at h1 h2 ⊢; omega) (fun a b => by simp; omega) _
theorem sortX_sortX (T : List Tx) : sortX (sortX T) = sortX T := by
  unfold sortX
  exact List.mergeSort_of_pairwise (sortX_le T)
theorem srt_flush (d : DSt) (h : d.T ≠ []) : d.srt.flush = d.flush.srt := by
  unfold DSt.flush
  have e : d.srt.T ≠ [] := sortX_ne h
  rw [if_neg e, if_neg h]
  unfold DSt.srt
  simp only
  rw [sortX_sortX, (sortX_perm d.T).length_eq, sortX_nil]
theorem Kp.drw (w : World) (S : List Nat) : Kp S w w.drew := ⟨rfl, rfl, rfl, Nat.le_refl _, fun _ _ _ => rfl⟩
set_option maxHeartbeats 4000000 in
/-- The program's Add. -/
theorem add_any (X B : Nat) (O : List Nat) (s : PSt) (idI : Int) (b : ByteArray) (w : World) (h : PIs w X B O s) (hO : ∀ g ∈ O, g < w.heap.size) (hO0 : 0 ∉ O) (hTab : Tab64 w) (hB0 : 0 < B) (hnx : s.next < 1000000) (hbf : s.G.length < s.buf) (hbs : b.size ≤ 140737488355328) :
    Calls Tryz.prog 63 #[.pointer (some ⟨X, 0, none⟩), .int .i64 idI, .string b] w fun e w' => e = .returned (.int .i64 (s.abs.addE idI b)) ∧ ∃ s', PIs w' X B (grow O w w') s' ∧ s'.abs = (s.abs.add idI b).srt ∧ Rest s s' ∧ Kp O w w' := by
  have x6 := px_down h
  have hsrt : s.abs.srt = s.abs := by
    unfold DSt.srt
    show ({ s.abs with T := sortX s.G } : DSt) = _
    rw [← sortX_eq (List.Perm.refl s.G) h.sort]
    rfl
  have hself : ∀ (E : Int), s.abs.addE idI b = E → E ≠ 0 → ∀ w', Kp [] w w' → (∃ s', PIs w' X B (grow O w w') s' ∧ s'.abs = (s.abs.add idI b).srt ∧ Rest s s' ∧ Kp O w w') := by
    intro E hE hne w' k
    refine ⟨s, (h.kp k (by simp)).more (fun g hg => mem_grow.2 (.inl hg)), ?_, Rest.refl _, k.mono (by simp)⟩
    unfold DSt.add
    rw [if_neg (by rw [hE]; exact hne), hsrt]
  by_cases hr1 : idI < 0 ∨ 99999 < idI
  · have hE : s.abs.addE idI b = 3 := by unfold DSt.addE; rw [if_pos hr1]
    have HS := hide (hself 3 hE (by decide) w (Kp.refl _ _))
    rw [hE]
    have hmay := idmN idI hr1 w
    clear h hself hE hr1 hsrt hTab
    go_enter Tryz.func63, Tryz.ntmps63
    go_wp2_with fail
    refine hmay.mono ?_
    rintro e w ⟨rfl, rfl⟩
    go_wp2_with fail
    go_ret
    exact ⟨rfl, HS.out⟩
  · obtain ⟨id, rfl⟩ : ∃ id : Nat, idI = (id : Int) := ⟨idI.toNat, by omega⟩
    have hid : id ≤ 99999 := by omega
    have hmay := idmY (id : Int) (by omega) (by omega) w
    by_cases hr2 : 120 < b.size
    · have hE : s.abs.addE id b = 4 := by unfold DSt.addE; rw [if_neg hr1, if_pos hr2]
      have HS := hide (hself 4 hE (by decide) w (Kp.refl _ _))
      rw [hE]
      have hwd := words_long b w hr2
      clear h hself hE hr1 hsrt hTab
      go_enter Tryz.func63, Tryz.ntmps63
      go_wp2_with fail
      refine hmay.mono ?_
      rintro e w ⟨rfl, rfl⟩
      go_wp2_with fail
      refine hwd.mono ?_
      rintro e w ⟨rfl, rfl⟩
      go_wp2_with fail
      go_ret
      exact ⟨rfl, HS.out⟩
    · have hb120 : b.size ≤ 120 := by omega
      have hwd := words_ok b w hb120
      obtain ⟨n, hn⟩ : ∃ n, s.abs.all.length = n := ⟨_, rfl⟩
      obtain ⟨hs, hhs⟩ : ∃ hs, decide (id ∈ s.abs.ids) = hs := ⟨_, rfl⟩
      have hal := abs_len s
      have h60 := h.all60
      have hbe : s.abs.addE id b = if hs = false ∧ 60 ≤ n then 5 else 0 := by
        unfold DSt.addE
        rw [if_neg hr1, if_neg hr2, hn, Int.toNat_natCast, ← hhs]
        simp
      have hhas := fun (w1 : World) (k : Kp [] w w1) => hasP X B id O s w1 (h.kp k (by simp)) hid
      obtain ⟨ag, cg, eg, _⟩ := owns_forms h.gath.row
      have hsize := fun (w1 : World) (k : Kp [] w w1) => by
        have h1 := h.kp k (by simp)
        obtain ⟨y0, y6, y7, y8, y9, y10, yf⟩ := px_cells h1
        rw [eg] at y7
        exact size_any X B s.hb (homL s.Ps).length s.G.length ag cg (homF s.Ps) w1 y7 y9 h1.hom (by omega) (by omega)
      rw [hhs] at hhas
      rw [← hal, hn] at hsize
      have HH := hide h
      have HHAS := hide hhas
      have HSZ := hide hsize
      have HSELF := hide hself
      have HN := hide hn
      have HHS := hide hhs
      have HTAB := hide hTab
      have HO := hide hO
      have HM := hide hmay
      have HAL := hide hal
      have HSRT := hide hsrt
      by_cases hfull : hs = false ∧ 60 ≤ n
      · have hE : s.abs.addE id b = 5 := by rw [hbe, if_pos hfull]
        have HE := hide hE
        rw [hE]
        obtain ⟨rfl, hf60⟩ := hfull
        have c4 : n = 60 := by omega
        subst c4
        clear h hself hhas hsize hn hhs hTab hbe hE hal hO hmay hsrt eg
        go_enter Tryz.func63, Tryz.ntmps63
        go_wp2_with fail
        refine HM.out.mono ?_
        rintro e w ⟨rfl, rfl⟩
        go_wp2_with fail
        refine hwd.mono ?_
        rintro e w1 ⟨v, rfl, hv, hbl⟩
        have k1 : Kp [] w w1 := kp_of_below hbl
        clear hv hbl
        go_wp2_with fail
        refine (HHAS.out w1 k1).mono ?_
        rintro e w2 ⟨rfl, k2⟩
        have k02 := k1.next k2
        go_wp2_with fail
        refine (HSZ.out w2 k02).mono ?_
        rintro e w3 ⟨rfl, k3⟩
        go_wp2_with fail
        go_ret
        exact ⟨rfl, HSELF.out 5 HE.out (by decide) w3 (k02.next k3)⟩
      · have hE : s.abs.addE id b = 0 := by rw [hbe, if_neg hfull]
        have HE := hide hE
        rw [hE]
        have hroom : ¬ (id ∉ s.abs.ids ∧ 60 ≤ s.abs.all.length) := by
          rintro ⟨h1, h2⟩
          refine hfull ⟨?_, by omega⟩
          rw [← hhs]; simpa using h1
        have hless := gone_less s.abs id hroom (by omega)
        have HLESS := hide hless
        have HFEW := hide (sp_few b hb120)
        have hcond : (hs = true) ∨ (hs = false ∧ ((n : Int) == 60) = false) := by
          cases hs
          · right; exact ⟨rfl, by rw [beq_eq_false_iff_ne]; intro h6; exact hfull ⟨rfl, by omega⟩⟩
          · exact .inl rfl
        have hwo : ∀ w1 : World, Kp [] w w1 → Calls Tryz.prog 141 #[.pointer (some ⟨X, 0, none⟩), .int .i64 (id : Int)] w1 fun e w' => e = .returned (.tuple #[]) ∧ ∃ s', PIs w' X B (grow O w1 w') s' ∧ s'.abs = s.abs.gone id ∧ Rest s s' ∧ Kp O w1 w' := fun w1 k => drop_any X B id O s w1 (h.kp k (by simp)) hid
        have HDROP := hide hwo
        clear h hself hhas hsize hn hhs hTab hbe hE hal hO hmay hsrt eg hroom hless hfull hwo h60
        rcases hcond with rfl | ⟨rfl, c4⟩
        case' inl =>
          go_enter Tryz.func63, Tryz.ntmps63
          go_wp2_with fail
          refine HM.out.mono ?_
          rintro e w ⟨rfl, rfl⟩
          go_wp2_with fail
          refine hwd.mono ?_
          rintro e w1 ⟨v, rfl, hv, hbl⟩
          have k1 : Kp [] w w1 := kp_of_below hbl
          have HV := hide hv
          clear hv hbl
          go_wp2_with fail
          refine (HHAS.out w1 k1).mono ?_
          rintro e w3 ⟨rfl, k13⟩
          have k03 := k1.next k13
          go_wp2_with fail
        case' inr =>
          go_enter Tryz.func63, Tryz.ntmps63
          go_wp2_with fail
          refine HM.out.mono ?_
          rintro e w ⟨rfl, rfl⟩
          go_wp2_with fail
          refine hwd.mono ?_
          rintro e w1 ⟨v, rfl, hv, hbl⟩
          have k1 : Kp [] w w1 := kp_of_below hbl
          have HV := hide hv
          clear hv hbl
          go_wp2_with fail
          refine (HHAS.out w1 k1).mono ?_
          rintro e w2 ⟨rfl, k2⟩
          have k02 := k1.next k2
          go_wp2_with fail
          refine (HSZ.out w2 k02).mono ?_
          rintro e w3 ⟨rfl, k3⟩
          have k13 := k2.next k3
          have k03 := k1.next k13
          go_wp2_with fail
        all_goals
          refine (HDROP.out w3 k03).mono ?_
          rintro e w4 ⟨rfl, s4, hi4, ha4, hr4, k4⟩
          have hlow : B ≤ w.heap.size := HH.out.low
          have hv1 := HV.out
          have hs1 := k1.size
          have hs3 := k13.size
          have hs4 := k4.size
          have hu4 : w4.ownsRow B 9 1 v (wordsB b).length (strV (wordsB b)) := by
            refine k4.owns (k13.owns (owns_low HV.out hlow) (by simp)) fun g hg hx => ?_
            have := (HV.out.lt g hg).1
            have := HO.out g hx
            omega
          have hun : ∀ g, v.ownBlock = some g → g ∉ grow O w3 w4 := fun g hg hx => by
            have h1 := HV.out.lt g hg
            rcases mem_grow.1 hx with h2 | h2
            · have := HO.out g h2; omega
            · omega
          have hgr : ∀ g, v.ownBlock = some g → w.heap.size ≤ g ∧ g < w1.heap.size := fun g hg => HV.out.lt g hg
          obtain ⟨a, c, rfl, _⟩ := owns_forms hv1
          have hno4 : id ∉ s4.abs.ids := by rw [ha4]; exact gone_ids _ _
          have hle4 : s4.abs.all.length < 60 := by rw [ha4]; exact HLESS.out
          have hgat := gather_any X B id (grow O w3 w4) s4 (wordsB b) a _ c w4 hi4 hu4 hun hid hno4 hle4 ⟨HFEW.out.1, ⟨HFEW.out.2.1, HFEW.out.2.2.1⟩, HFEW.out.2.2.2⟩
          have HI4 := hide hi4
          have HA4 := hide ha4
          have HGR := hide hgr
          clear hi4 ha4 hu4 hun hv1 hno4 hle4 HV hgr
          go_wp2_with fail
          refine hgat.mono ?_
          rintro e w5 ⟨rfl, s5, hi5, ha5, hr5, k5⟩
          have hs5 := k5.size
          have hin5 : ∀ g ∈ grow (grow O w3 w4) w4 w5 ++ (Value.slice a (sp b.size b.data.toList).length c).ownBlock.toList, g ∈ grow O w w5 := by
            intro g hg
            rcases List.mem_append.1 hg with h1 | h1
            · rcases mem_grow.1 h1 with h2 | h2
              · rcases mem_grow.1 h2 with h3 | h3
                · exact mem_grow.2 (.inl h3)
                · exact mem_grow.2 (.inr ⟨by omega, by omega⟩)
              · exact mem_grow.2 (.inr ⟨by omega, h2.2⟩)
            · have := HGR.out g (by simpa using h1)
              exact mem_grow.2 (.inr ⟨by omega, by omega⟩)
          have hi5' := hi5.more hin5
          have k05 : Kp O w w5 := (k03.mono (by simp)).next (kp_grow k4 k5)
          obtain ⟨y0, y6, y7, y8, y9, y10, yf⟩ := px_cells hi5'
          obtain ⟨a5, c5, e5, _⟩ := owns_forms hi5'.gath.row
          obtain ⟨n5, hn5⟩ : ∃ n5, s5.G.length = n5 := ⟨_, rfl⟩
          rw [hn5] at e5
          rw [e5] at y7
          have eG5 : s5.G = insAt s4.G (aheadN s4.G id) (id, wordsB b) := congrArg DSt.T ha5
          have eG4 : s4.G = (s.abs.gone id).T := congrArg DSt.T HA4.out
          have hl5 : n5 = s4.G.length + 1 := by rw [← hn5, eG5, (ins_perm _ _ _).length_eq]; simp
          have hl4 : s4.G.length ≤ s.G.length := by rw [eG4]; exact List.length_filter_le _ _
          have hbu : s5.buf = s.buf := by rw [hr5.1, hr4.1]
          have hnx5 : s5.next = s.next := by
            have h1 : s5.next = s4.next := congrArg DSt.next ha5
            have h2 : s4.next = s.next := congrArg DSt.next HA4.out
            omega
          rw [hbu] at y0
          have hab : Hid (s5.abs = ((s.abs.gone id).put (id, wordsB b)).srt) := by
            show _ = _
            rw [ha5, ← HA4.out]
            unfold DSt.put DSt.srt
            show ({ s4.abs with T := _ } : DSt) = { s4.abs with T := sortX (s4.G ++ [(id, wordsB b)]) }
            rw [← sortX_eq (ins_perm s4.G (aheadN s4.G id) (id, wordsB b)) (by rw [← eG5]; exact hi5.sort)]
          have hlen : Hid (((s.abs.gone id).put (id, wordsB b)).T.length = n5) := by
            show _ = _
            rw [hl5, eG4]; simp [DSt.put]
          have hre : Rest s s5 := hr4.trans hr5
          have hTab5 := hide (HTAB.out.kp k05 hO0)
          have HI5 := hide hi5'
          have HE5 := hide e5
          clear hi5 hi5' ha5 e5 eG5 eG4 y6 y8 y9 y10 hgat
          go_wp2_with fail
          go_region
          by_cases hge : (n5 : Int) = (s.buf : Int)
          · have hfl := flush_any X B _ s5 w5.drew (HI5.out.kp (Kp.drw w5 []) (by simp)) (hTab5.out.kp (Kp.drw w5 []) (by simp)) hB0 (by omega)
            go_wp2_with fail
            refine hfl.mono ?_
            rintro e w7 ⟨rfl, s7, hi7, ha7, hr7, k7⟩
            have HI7 := hide hi7
            have HA7 := hide ha7
            clear hfl hi7 ha7
            go_wp2_with fail
            go_ret
            have k57 : Kp (grow O w w5) w5 w7 := (Kp.drw w5 _).next k7
            refine ⟨rfl, s7, HI7.out.more ?_, ?_, hre.trans hr7, kp_grow k05 k57⟩
            · intro g hg
              rcases mem_grow.1 hg with h1 | h1
              · rcases mem_grow.1 h1 with h2 | h2
                · exact mem_grow.2 (.inl h2)
                · exact mem_grow.2 (.inr ⟨h2.1, Nat.lt_of_lt_of_le h2.2 k57.size⟩)
              · exact mem_grow.2 (.inr ⟨Nat.le_trans k05.size h1.1, h1.2⟩)
            · rw [HA7.out, hab.out]
              unfold DSt.add
              rw [if_pos HE.out, Int.toNat_natCast]
              unfold DSt.add1
              rw [if_pos (by rw [hlen.out]; show s.buf ≤ _; omega)]
              exact srt_flush _ (by simp [DSt.put])
          · go_wp2_with fail
            go_ret
            refine ⟨rfl, s5, HI5.out.kp (Kp.drw w5 []) (by simp), ?_, hre, k05.next (Kp.drw w5 _)⟩
            rw [hab.out]
            unfold DSt.add
            rw [if_pos HE.out, Int.toNat_natCast]
            unfold DSt.add1
            rw [if_neg (by rw [hlen.out]; show ¬ s.buf ≤ _; omega)]
end Go.Proofs.YtpdoacfiiledcaaGreatDoor.Pak

set_option linter.unusedVariables false
set_option maxRecDepth 8000
namespace Go.Proofs.YtpdoacfiiledcaaGreatDoor.Pak
open Go.RowKit Go.Proofs.YtpdoacfiiledcaaGreatDoor Go.Proofs.YtpdoacfiiledcaaGreatDoor.Spl SiftM

/-- May the settings be? -/
def cfgOk (b f : Int) : Bool := decide (1 ≤ b) && decide (b ≤ 8) && decide (2 ≤ f) && decide (f ≤ 4)
def newR : List Value := [.bool false, .slice none 0 0, .bool false, .slice none 0 0, .bool false, .slice none 0 0, .bool false, .slice none 0 0]
def newS (b f : Nat) : RSt := ⟨b, f, 0, .slice none 0 0, .slice none 0 0, [], [], [], newR⟩
def DSt.new (b f : Nat) : DSt := ⟨b, f, 0, [], [], [false, false, false, false]⟩
theorem newS_abs (b f : Nat) : (newS b f).abs = DSt.new b f := by
  unfold RSt.abs newS DSt.new
  rfl
theorem new_is {w : World} {X B b f : Nat} {O : List Nat} (h : w.heap[X]? = some (.cells (ixC (newS b f)) 187 (0, 0))) (hB : B ≤ w.heap.size) (hX : X ∈ O) : RIs w X B O (newS b f) := by
  refine ⟨h, ⟨rfl, ?_⟩, hB, ⟨rfl, World.ownsRow_nil _ _ _ _, fun i hi => by simp [newS] at hi⟩, fun t ht => by simp [newS] at ht, ⟨World.ownsRow_nil _ _ _ _, fun t ht => by simp [newS] at ht⟩, by simp [newS], by simp [RSt.pairs, newS, liveL], by simp [RSt.pairs, newS, liveL], hX, ?_, ?_, fun t ht => by simp [newS] at ht, fun t ht => by simp [newS] at ht, fun t ht => by simp [newS] at ht, fun t ht => by simp [newS] at ht, List.Pairwise.nil⟩
  · intro i hi
    match i, hi with
    | 0, _ => exact ⟨false, rfl⟩
    | 1, _ => exact ⟨false, rfl⟩
    | 2, _ => exact ⟨false, rfl⟩
    | 3, _ => exact ⟨false, rfl⟩
  · intro g hg; simp [newS, Value.ownBlock] at hg
  · intro g hg; simp [newS, Value.ownBlock] at hg

set_option maxHeartbeats 2000000 in
/-- The document's New. -/
theorem rnew_any (bI fI : Int) (w : World) :
    Calls Tryz.prog 88 #[.agg #[.int .i64 bI, .int .i64 fI]] w fun e w' => Kp [] w w' ∧ ((cfgOk bI fI = false ∧ e = .returned (.tuple #[.pointer none, .int .i64 1])) ∨
      (cfgOk bI fI = true ∧ ∃ X, e = .returned (.tuple #[.pointer (some ⟨X, 0, none⟩), .int .i64 0]) ∧ w.heap.size ≤ X ∧ RIs w' X w.heap.size (grow [] w w') (newS bI.toNat fI.toNat))) := by
  obtain ⟨W1, hW1⟩ : ∃ W1, w.alloc (.cells #[.int .i64 bI, .int .i64 fI] 74) = W1 := ⟨_, rfl⟩
  have hb : W1.heap[w.heap.size]? = some (.cells #[.int .i64 bI, .int .i64 fI] 74 (0, 0)) := by rw [← hW1]; exact heap_alloc_new w _
  obtain ⟨c0, c1, f0, f1⟩ := rd_cells hb
  have k1 : Kp [] w W1 := by rw [← hW1]; exact (Kp.refl _ _).alloc _
  have hs1 : W1.heap.size = w.heap.size + 1 := by rw [← hW1]; simp
  have HS := hide hs1
  clear hs1 hb
  by_cases h1 : bI < 1
  · go_enter Tryz.func88, Tryz.ntmps88
    go_wp2_with fail
    go_ret2
    exact ⟨k1, .inl ⟨by unfold cfgOk; simp; omega, rfl⟩⟩
  by_cases h2 : 8 < bI
  · go_enter Tryz.func88, Tryz.ntmps88
    go_wp2_with fail
    go_ret2
    exact ⟨k1, .inl ⟨by unfold cfgOk; simp; omega, rfl⟩⟩
  by_cases h3 : fI < 2
  · go_enter Tryz.func88, Tryz.ntmps88
    go_wp2_with fail
    go_ret2
    exact ⟨k1, .inl ⟨by unfold cfgOk; simp; omega, rfl⟩⟩
  by_cases h4 : 4 < fI
  · go_enter Tryz.func88, Tryz.ntmps88
    go_wp2_with fail
    go_ret2
    exact ⟨k1, .inl ⟨by unfold cfgOk; simp; omega, rfl⟩⟩
  obtain ⟨b, rfl⟩ : ∃ b : Nat, bI = (b : Int) := ⟨bI.toNat, by omega⟩
  obtain ⟨f, rfl⟩ : ∃ f : Nat, fI = (f : Int) := ⟨fI.toNat, by omega⟩
  go_enter Tryz.func88, Tryz.ntmps88
  go_wp2_with fail
  go_ret2
  refine ⟨k1.alloc _, .inr ⟨by unfold cfgOk; simp; omega, W1.heap.size, rfl, by rw [HS.out]; omega, ?_⟩⟩
  refine new_is ?_ (by simp; rw [HS.out]; omega) (mem_grow.2 (.inr ⟨by rw [HS.out]; omega, by simp⟩))
  exact heap_alloc_new W1 _
/-- The least reader that is not open. -/
def freeR (R : List Bool) : Option Nat := (List.range 4).find? fun i => !(R.getD i true)
def DSt.open (d : DSt) : DSt := match freeR d.R with | none => d | some i => { d.flush with R := d.R.set i true }
def DSt.openA (d : DSt) : Value := match freeR d.R with | none => .tuple #[.int .i64 0, .int .i64 5] | some i => .tuple #[.int .i64 (i : Int), .int .i64 0]
end Go.Proofs.YtpdoacfiiledcaaGreatDoor.Pak

set_option linter.unusedVariables false
set_option maxRecDepth 8000
namespace Go.Proofs.YtpdoacfiiledcaaGreatDoor.Pak
open Go.RowKit Go.Proofs.YtpdoacfiiledcaaGreatDoor Go.Proofs.YtpdoacfiiledcaaGreatDoor.Spl SiftM

theorem ixC_rd {s : RSt} (h : RdOk s.R) (j : Nat) (hj : j < 8) : (ixC s)[5 + j]? = s.R[j]? := by
  simp only [ixC, List.getElem?_toArray]
  rw [List.getElem?_append_right (by simp [ixA]), List.getElem?_append_left (by simp [ixA, h.1]; omega)]
  simp [ixA]
theorem rd_on {R : List Value} (h : RdOk R) (i : Nat) (hi : i < 4) : R[2 * i]? = some (.bool ((opens R).getD i true)) := by
  obtain ⟨b, hb⟩ := h.2 i hi
  rw [hb]
  have : (opens R).getD i true = b := by
    unfold opens
    rw [List.getD_eq_getElem?_getD, List.getElem?_map, List.getElem?_range hi]
    simp [hb, isOn]
  rw [this]
/-- A reader is open. -/
def openS (s : RSt) (i : Nat) (v : Value) : RSt := { s with R := (s.R.set (2 * i) (.bool true)).set (2 * i + 1) v }
theorem open_rd {R : List Value} (h : RdOk R) (i : Nat) (v : Value) (hi : i < 4) : RdOk ((R.set (2 * i) (.bool true)).set (2 * i + 1) v) := by
  refine ⟨by simp [h.1], fun j hj => ?_⟩
  rw [List.getElem?_set_ne (by omega)]
  by_cases e : i = j
  · subst e
    exact ⟨true, by rw [List.getElem?_set_self (by rw [h.1]; omega)]⟩
  · rw [List.getElem?_set_ne (by omega)]
    exact h.2 j hj
theorem open_opens {R : List Value} (h : RdOk R) (i : Nat) (v : Value) (hi : i < 4) : opens ((R.set (2 * i) (.bool true)).set (2 * i + 1) v) = (opens R).set i true := by
  apply List.ext_getElem
  · simp [opens]
  · intro j h1 h2
    have hj : j < 4 := by simpa [opens] using h1
    simp only [opens, List.getElem_map, List.getElem_range, List.getElem_set]
    rw [List.getElem?_set_ne (by omega)]
    by_cases e : i = j
    · subst e
      rw [List.getElem?_set_self (by rw [h.1]; omega)]
      simp [isOn]
    · rw [List.getElem?_set_ne (by omega), if_neg e]
theorem RIs.opened {w w' : World} {X B i : Nat} {O : List Nat} {s : RSt} {v : Value} (h : RIs w X B O s) (hi : i < 4) (hX : w'.heap[X]? = some (.cells (ixC (openS s i v)) 187 (0, 0))) (k : Kp [X] w w') : RIs w' X B O (openS s i v) := by
  have far : ∀ {e : TypeId} {size m : Nat} {u : Value} {xs : List Value}, e ≠ 187 → w.ownsRow B e size u m xs → w'.ownsRow B e size u m xs := fun he hu => k.owns hu (fun gg hgg hx => by
    simp at hx; subst hx
    exact owns_ne_type hu h.blk he hgg)
  exact ⟨hX, open_rd h.rd i v hi, Nat.le_trans h.low k.size, ⟨h.loose.len, far (by decide) h.loose.row, fun i h1 h2 => far (by decide) (h.loose.each i h1 h2)⟩, h.word,
    RSegs.far (S := []) h.segs k h.blk (by decide) (by decide) (by decide), h.cnt, h.all60, h.nodup, h.inX, h.inL, h.inS, h.inD, h.inW, h.inV, h.apart, h.apart2⟩
theorem find4 (p : Nat → Bool) (i : Nat) (hi : i < 4) (h : p i = true) (hlow : ∀ j, j < i → p j = false) : (List.range 4).find? p = some i := by
  rw [List.find?_range_eq_some]
  exact ⟨h, by simpa using hi, fun j hj => by rw [hlow j hj]; rfl⟩
theorem find4_none (p : Nat → Bool) (hlow : ∀ j, j < 4 → p j = false) : (List.range 4).find? p = none := by
  rw [List.find?_eq_none]
  intro x hx
  rw [hlow x (List.mem_range.1 hx)]; simp
theorem set_mid {l R E : List Value} (j : Nat) (x : Value) (hj : j < R.length) : (l ++ (R ++ E)).set (l.length + j) x = l ++ (R.set j x ++ E) := by
  rw [List.set_append_right _ _ (by omega), List.set_append_left _ _ (by omega)]
  congr 3; omega
theorem ixC_setR {s : RSt} (h : s.R.length = 8) (j : Nat) (x : Value) (hj : j < 8) : (ixC s).setIfInBounds (5 + j) x = ixC { s with R := s.R.set j x } := by
  simp only [ixC, List.setIfInBounds_toArray]
  congr 1
  exact set_mid (l := ixA s) (E := ixE) j x (by omega)
theorem ixC_open {s : RSt} (h : RdOk s.R) (i : Nat) (v : Value) (hi : i < 4) : ((ixC s).setIfInBounds (5 + 2 * i) (.bool true)).setIfInBounds (5 + 2 * i + 1) v = ixC (openS s i v) := by
  rw [ixC_setR h.1 (2 * i) _ (by omega), show 5 + 2 * i + 1 = 5 + (2 * i + 1) by omega, ixC_setR (by simp [h.1]) (2 * i + 1) _ (by omega)]
  rfl

set_option maxHeartbeats 4000000 in
/-- The document's Open. -/
theorem ropen_any (X B : Nat) (O : List Nat) (s : RSt) (w : World) (h : RIs w X B O s) (hnx : s.next < 1000000) :
    Calls Tryz.prog 109 #[.pointer (some ⟨X, 0, none⟩)] w fun e w' => e = .returned s.abs.openA ∧ ∃ s', RIs w' X B (grow O w w') s' ∧ s'.abs = s.abs.open ∧ Kp O w w' := by
  obtain ⟨x0, x2, x3, x4, x18, f2, f3, f4⟩ := ix_cells h
  have hcR : ∀ i, i < 4 → w.cell? ⟨X, 5 + 2 * i, none⟩ = some (.bool ((opens s.R).getD i true)) := by
    intro i hi
    have := ixC_rd h.rd (2 * i) (by omega)
    rw [rd_on h.rd i hi] at this
    simp [World.cell?, h.blk, this]
  have HC := hide hcR
  have HH := hide h
  clear h hcR x0 x2 x3 x4 f2 f3 f4
  go_enter Tryz.func109, Tryz.ntmps109
  go_wp2_with fail
  go_loopw [4] (fun iv wr => ∃ i : Nat, i ≤ 4 ∧ iv = .int .i64 (i : Int) ∧ wr = w ∧ Hid (∀ j, j < i → (opens s.R).getD j true = true)) (fun iv _ => 4 - (intOf iv).toNat)
  case atStart => exact ⟨0, by omega, rfl, rfl, hide (fun j hj => by omega)⟩
  case round =>
    obtain ⟨i, hi, rfl, hw, hlow⟩ := hrel
    rw [hw]
    clear hw
    by_cases hlt : i < 4
    · have hci := HC.out i hlt
      obtain ⟨b, hb⟩ : ∃ b, (opens s.R).getD i true = b := ⟨_, rfl⟩
      rw [hb, Nat.mul_comm] at hci
      have j1 : (0 : Int) ≤ (i : Int) := by omega
      have j2 : (i : Int) < 4 := by omega
      have HB := hide hb
      clear hb
      cases b
      · have hfl := rflush_is X B O s w HH.out (by omega)
        go_wp2_with fail
        refine hfl.mono ?_
        rintro e w1 ⟨rfl, s1, hi1, ha1, hR1, k1⟩
        obtain ⟨y0, y2, y3, y4, y18, _, _, _⟩ := ix_cells hi1
        obtain ⟨T', hp, hso⟩ := sorted_exists _ hi1.nodup
        have hn1 : s1.next ≤ 1000000 := by
          have : s1.next = s.abs.flush.next := by rw [← ha1]; rfl
          rw [this]
          unfold DSt.flush
          split
          · show s.next ≤ _; omega
          · show s.next + 1 ≤ _; omega
        have htx := rtexts_any X B s1.lv s1.sv s1.T s1.vs s1.L s1.L.length s1.T.length T' w1 y2 y3 hi1.low hi1.loose rfl hi1.segs rfl (by have := hi1.cnt; omega) hi1.all60 hp hso
        have HI1 := hide hi1
        have HA1 := hide ha1
        have HR1 := hide hR1
        clear hfl hi1 ha1 hR1 hp hso y0 y2 y3 y4 y18
        go_wp2_with fail
        refine htx.mono ?_
        rintro e w2 ⟨v2, vs2, rfl, hd2, k2⟩
        have hi2 := HI1.out.kp k2 (by simp)
        obtain ⟨av, cv, ev, _⟩ := owns_forms hd2.row
        have hX2 := hi2.blk
        have hg1 : w2.frozen? ⟨X, 5 + i * 2, none⟩ = false := by simp [World.frozen?, hX2]
        have hg2 : w2.frozen? ⟨X, 5 + i * 2 + 1, none⟩ = false := by simp [World.frozen?, hX2]
        have hgc : ∀ j, j < 8 → ∃ u, w2.cell? ⟨X, 5 + j, none⟩ = some u := by
          intro j hj
          have h1 := ixC_rd hi2.rd j hj
          have h0 : j < s1.R.length := by rw [hi2.rd.1]; exact hj
          rw [List.getElem?_eq_getElem h0] at h1
          exact ⟨s1.R[j], by simp [World.cell?, hX2, h1]⟩
        obtain ⟨u8, hg3⟩ := hgc (i * 2) (by omega)
        obtain ⟨u9, hg4⟩ := hgc (i * 2 + 1) (by omega)
        rw [← Nat.add_assoc] at hg4
        have HI2 := hide hi2
        have HX2 := hide hX2
        subst ev
        clear htx hd2 hi2 hX2 hgc
        go_wp2_with fail
        go_ret2
        have hfree : freeR s.abs.R = some i := by
          unfold freeR
          refine find4 _ i hlt ?_ fun j hj => ?_
          · show (!(opens s.R).getD i true) = true
            rw [HB.out]; rfl
          · show (!(opens s.R).getD j true) = false
            rw [hlow.out j hj]; rfl
        have hX3 : ((w2.setCell ⟨X, 5 + i * 2, none⟩ (.bool true)).setCell ⟨X, 5 + i * 2 + 1, none⟩ (.slice av T'.length cv)).heap[X]? = some (.cells (ixC (openS s1 i (.slice av T'.length cv))) 187 (0, 0)) := by
          rw [Nat.mul_comm i 2, heap_setCell_same _ X _ _ 187 _ (heap_setCell_same w2 X _ _ 187 _ HX2.out), ixC_open HI2.out.rd i _ hlt]
        have k3 : Kp [X] w2 ((w2.setCell ⟨X, 5 + i * 2, none⟩ (.bool true)).setCell ⟨X, 5 + i * 2 + 1, none⟩ (.slice av T'.length cv)) := (kp_set w2 X _ _).next (kp_set _ X _ _)
        have hi3 := HI2.out.opened hlt hX3 k3
        have hs2 := k2.size
        have hs3 := k3.size
        have hs1 := k1.size
        refine ⟨?_, _, hi3.more ?_, ?_, ?_⟩
        · unfold DSt.openA
          rw [hfree]
          rfl
        · intro g hg
          rcases mem_grow.1 hg with h1 | h1
          · exact mem_grow.2 (.inl h1)
          · exact mem_grow.2 (.inr ⟨h1.1, by omega⟩)
        · unfold DSt.open
          rw [hfree]
          simp only
          rw [← HA1.out]
          unfold RSt.abs openS
          simp only
          rw [open_opens HI2.out.rd i _ hlt, HR1.out]
        · refine kp_grow k1 ((k2.mono (by simp)).next (k3.mono fun x hx => ?_))
          simp at hx; subst hx
          exact HI1.out.inX
      · go_wp2_with fail
        go_roundw
        case rel => exact ⟨i + 1, by omega, by go_num, by first | trivial | rfl, hide (fun j hj => by
          rcases Nat.lt_or_ge j i with h1 | h1
          · exact hlow.out j h1
          · have : j = i := by omega
            subst this; exact HB.out)⟩
        case measure => simp [intOf]; omega
    · have hi4 : i = 4 := by omega
      subst hi4
      go_wp2_with fail
      go_ret2
      have hnone : freeR s.abs.R = none := by
        unfold freeR
        exact find4_none _ fun j hj => by
          have := hlow.out j hj
          show (!(opens s.R).getD j true) = false
          rw [this]; rfl
      refine ⟨?_, s, HH.out.more (fun g hg => mem_grow.2 (.inl hg)), ?_, Kp.refl _ _⟩
      · unfold DSt.openA
        rw [hnone]
        rfl
      · unfold DSt.open
        rw [hnone]
end Go.Proofs.YtpdoacfiiledcaaGreatDoor.Pak

