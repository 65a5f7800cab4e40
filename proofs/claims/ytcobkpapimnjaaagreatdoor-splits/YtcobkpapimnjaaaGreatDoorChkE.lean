import Derived.Test.YtcobkpapimnjaaaGreatDoorChkD
namespace Go.Proofs.YtcobkpapimnjaaaGreatDoor
open Go.RowKit ChkM
set_option linter.unusedVariables false

theorem takeC_same {c : UInt8} {s : ByteArray} {k k2 : Nat} (h : (takeC c (s.data.toList.drop k)).1 = false) (h2 : (takeC c (s.data.toList.drop k)).2 = s.data.toList.drop k2) (hk : k ≤ s.size) (hk2 : k2 ≤ s.size) : k2 = k := by
  rw [(takeC_no h).1] at h2
  have := congrArg List.length h2
  rw [List.length_drop, List.length_drop] at this
  have hl : s.data.toList.length = s.size := by simp
  omega
theorem drop_length (s : ByteArray) (k : Nat) : (s.data.toList.drop k).length = s.size - k := by rw [List.length_drop]; simp

set_option maxHeartbeats 1000000 in
theorem part_of (f : Nat) (ihP : CD 188 0 f) (ihQ : CD 132 2 f) : CD 188 0 (f + 1) := by
  intro s k B d w hs hk hf hd hp
  have hlen := hide (drop_length s k)
  replace hp := hide hp
  replace ihP := hide ihP
  replace ihQ := hide ihQ
  by_cases h5 : d < 5
  · go_enter Tryz.func188, Tryz.ntmps188
    go_wp2_with fail
    refine (take_num _ 33 rfl s k B _ hs hk hp.out).mono ?_
    rintro e w1 ⟨k1, rfl, a1, a2, hr1, hP1, hg1⟩
    replace hr1 := hide hr1
    replace hP1 := hide hP1
    clear hp
    cases hb : (takeC 33 (List.drop k s.data.toList)).1
    · have e1 := takeC_same hb hr1.out hk a2
      subst e1
      clear hr1 a1 a2
      go_wp2_with fail
      refine (take_num _ 40 rfl s k1 B _ hs hk hP1.out).mono ?_
      rintro e w2 ⟨k2, rfl, b1, b2, hr2, hP2, hg2⟩
      replace hr2 := hide hr2
      replace hP2 := hide hP2
      clear hP1
      have hg := grown_trans hg1 hg2
      clear hg1 hg2
      cases hc : (takeC 40 (List.drop k1 s.data.toList)).1
      · have e2 := takeC_same hc hr2.out hk b2
        subst e2
        clear hr2 b1 b2
        have HT := hide (part_low (f := f) (d := d) (l := List.drop k2 s.data.toList) (fun _ => hb) (fun _ => hc))
        clear hb hc
        go_wp2_with fail
        refine (take_num _ 34 rfl s k2 B _ hs hk hP2.out).mono ?_
        rintro e w3 ⟨k3, rfl, c1, c2, hr3, hP3, hg3⟩
        replace hr3 := hide hr3
        replace hP3 := hide hP3
        have hg' := grown_trans hg hg3
        clear hP2 hg hg3
        cases hq : (takeC 34 (List.drop k2 s.data.toList)).1
        · have e3 := takeC_same hq hr3.out hk c2
          subst e3
          have HT2 : Hid (ps (f + 1) 0 d (List.drop k3 s.data.toList) = termP (List.drop k3 s.data.toList)) := by
            show _ = _
            rw [HT.out, hq]; rfl
          clear HT hq
          go_wp2_with fail
          refine (term_any s k3 B _ hs hk hP3.out).mono ?_
          rintro e w4 ⟨k4, rfl, d1, d2, hr4, hP4, hg4⟩
          replace hr4 := hide hr4
          go_wp2_with fail
          go_ret
          rw [HT2.out]
          exact ⟨k4, rfl, by omega, d2, hr4.out, hP4, grown_trans hg' hg4⟩
        · have HT2 : Hid (ps (f + 1) 0 d (List.drop k2 s.data.toList) = phraseP (s.size - k2 + 1) (List.drop k3 s.data.toList)) := by
            show _ = _
            rw [HT.out, hq, if_pos rfl, hr3.out, hlen.out]
          have hpos : k2 + 1 ≤ k3 := Nat.le_of_eq (takeC_pos hq hr3.out hk c2).symm
          clear HT hq
          go_wp2_with fail
          refine (phrase_any s k3 B (s.size - k2 + 1) _ hs c2 (by omega) hP3.out).mono ?_
          rintro e w4 ⟨k4, rfl, d1, d2, hr4, hP4, hg4⟩
          replace hr4 := hide hr4
          go_wp2_with fail
          go_ret
          rw [HT2.out]
          exact ⟨k4, rfl, by omega, d2, hr4.out, hP4, grown_trans hg' hg4⟩
      · have hpos : k1 + 1 ≤ k2 := Nat.le_of_eq (takeC_pos hc hr2.out hk b2).symm
        have HT : Hid (ps (f + 1) 0 d (List.drop k1 s.data.toList) = if (ps f 2 (d + 1) (List.drop k2 s.data.toList)).1 then takeC 41 (ps f 2 (d + 1) (List.drop k2 s.data.toList)).2 else (false, (ps f 2 (d + 1) (List.drop k2 s.data.toList)).2)) := by
          show _ = _
          rw [part_open h5 hb hc, hr2.out]
        clear hb hc
        go_wp2_with fail
        rw [show ((d : Int) + 1) = ((d + 1 : Nat) : Int) by omega]
        refine (ihQ.out s k2 B (d + 1) _ hs b2 (by omega) (by omega) hP2.out).mono ?_
        rintro e w3 ⟨k3, rfl, c1, c2, hr3, hP3, hg3⟩
        replace hr3 := hide hr3
        replace hP3 := hide hP3
        have hg' := grown_trans hg hg3
        clear hP2 hg hg3
        cases hq : (ps f 2 (d + 1) (List.drop k2 s.data.toList)).1
        · have HT2 : Hid (ps (f + 1) 0 d (List.drop k1 s.data.toList) = (false, (ps f 2 (d + 1) (List.drop k2 s.data.toList)).2)) := by
            show _ = _
            rw [HT.out, hq]; rfl
          clear HT
          go_wp2_with fail
          go_ret
          rw [HT2.out]
          exact ⟨k3, rfl, by omega, c2, hr3.out, hP3.out, hg'⟩
        · have HT2 : Hid (ps (f + 1) 0 d (List.drop k1 s.data.toList) = takeC 41 (List.drop k3 s.data.toList)) := by
            show _ = _
            rw [HT.out, hq, if_pos rfl, hr3.out]
          clear HT
          go_wp2_with fail
          refine (take_num _ 41 rfl s k3 B _ hs c2 hP3.out).mono ?_
          rintro e w4 ⟨k4, rfl, d1, d2, hr4, hP4, hg4⟩
          replace hr4 := hide hr4
          go_wp2_with fail
          go_ret
          rw [HT2.out]
          exact ⟨k4, rfl, by omega, d2, hr4.out, hP4, grown_trans hg' hg4⟩
    · have hpos : k + 1 ≤ k1 := Nat.le_of_eq (takeC_pos hb hr1.out hk a2).symm
      have HT : Hid (ps (f + 1) 0 d (List.drop k s.data.toList) = ps f 0 (d + 1) (List.drop k1 s.data.toList)) := by
        show _ = _
        rw [part_bang h5 hb, hr1.out]
      clear hb
      go_wp2_with fail
      rw [show ((d : Int) + 1) = ((d + 1 : Nat) : Int) by omega]
      refine (ihP.out s k1 B (d + 1) _ hs a2 (by omega) (by omega) hP1.out).mono ?_
      rintro e w3 ⟨k3, rfl, c1, c2, hr3, hP3, hg3⟩
      replace hr3 := hide hr3
      go_wp2_with fail
      go_ret
      rw [HT.out]
      exact ⟨k3, rfl, by omega, c2, hr3.out, hP3, grown_trans hg1 hg3⟩
  · have h5' : decide ((d : Int) < 5) = false := by simp; omega
    have HT := hide (part_low (f := f) (d := d) (l := List.drop k s.data.toList) (fun h => absurd h h5) (fun h => absurd h h5))
    go_enter Tryz.func188, Tryz.ntmps188
    go_wp2_with fail
    refine (take_num _ 34 rfl s k B _ hs hk hp.out).mono ?_
    rintro e w3 ⟨k3, rfl, c1, c2, hr3, hP3, hg'⟩
    replace hr3 := hide hr3
    replace hP3 := hide hP3
    clear hp
    cases hq : (takeC 34 (List.drop k s.data.toList)).1
    · have e3 := takeC_same hq hr3.out hk c2
      subst e3
      have HT2 : Hid (ps (f + 1) 0 d (List.drop k3 s.data.toList) = termP (List.drop k3 s.data.toList)) := by
        show _ = _
        rw [HT.out, hq]; rfl
      clear HT hq
      go_wp2_with fail
      refine (term_any s k3 B _ hs hk hP3.out).mono ?_
      rintro e w4 ⟨k4, rfl, d1, d2, hr4, hP4, hg4⟩
      replace hr4 := hide hr4
      go_wp2_with fail
      go_ret
      rw [HT2.out]
      exact ⟨k4, rfl, by omega, d2, hr4.out, hP4, grown_trans hg' hg4⟩
    · have HT2 : Hid (ps (f + 1) 0 d (List.drop k s.data.toList) = phraseP (s.size - k + 1) (List.drop k3 s.data.toList)) := by
        show _ = _
        rw [HT.out, hq, if_pos rfl, hr3.out, hlen.out]
      have hpos : k + 1 ≤ k3 := Nat.le_of_eq (takeC_pos hq hr3.out hk c2).symm
      clear HT hq
      go_wp2_with fail
      refine (phrase_any s k3 B (s.size - k + 1) _ hs c2 (by omega) hP3.out).mono ?_
      rintro e w4 ⟨k4, rfl, d1, d2, hr4, hP4, hg4⟩
      replace hr4 := hide hr4
      go_wp2_with fail
      go_ret
      rw [HT2.out]
      exact ⟨k4, rfl, by omega, d2, hr4.out, hP4, grown_trans hg' hg4⟩

theorem part_zero (f : Nat) (h : f = 0) : CD 188 0 f := by
  intro s k B d w hs hk hf hd hp; omega

theorem descent : ∀ f, (∀ g, g ≤ f → CD 188 0 g) ∧ (∀ g, g ≤ f → CD 168 1 g) ∧ (∀ g, g ≤ f → CD 132 2 g)
  | 0 => by
    have hP : ∀ g, g ≤ 0 → CD 188 0 g := fun g hg => part_zero g (by omega)
    have hA : ∀ g, g ≤ 0 → CD 168 1 g := fun g hg => all_of g (fun j hj => by omega)
    exact ⟨hP, hA, fun g hg => query_of g (fun j hj => by omega)⟩
  | f + 1 => by
    obtain ⟨hP, hA, hQ⟩ := descent f
    have hP' : ∀ g, g ≤ f + 1 → CD 188 0 g := fun g hg => by
      by_cases e : g = f + 1
      · subst e; exact part_of f (hP f (by omega)) (hQ f (by omega))
      · exact hP g (by omega)
    have hA' : ∀ g, g ≤ f + 1 → CD 168 1 g := fun g hg => all_of g (fun j hj => hP' j (by omega))
    exact ⟨hP', hA', fun g hg => query_of g (fun j hj => hA' j (by omega))⟩
theorem query_any (f : Nat) : CD 132 2 f := (descent f).2.2 f (Nat.le_refl _)
end Go.Proofs.YtcobkpapimnjaaaGreatDoor
