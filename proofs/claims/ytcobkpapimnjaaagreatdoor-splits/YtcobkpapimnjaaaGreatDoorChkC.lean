import Derived.Test.YtcobkpapimnjaaaGreatDoorChkB
namespace Go.Proofs.YtcobkpapimnjaaaGreatDoor
open Go.RowKit ChkM
set_option linter.unusedVariables false

theorem take_num (n : Int) (c : UInt8) (hn : (c.toNat : Int) = n) (s : ByteArray) (k B : Nat) (w : World) (hs : s.size ≤ 1000) (hk : k ≤ s.size) (hp : Pa w B s k) :
    Calls Tryz.prog 169 #[.pointer (some ⟨B, 0, none⟩), .int .u8 n] w (Res (takeC c (s.data.toList.drop k)) B s k w) := by
  rw [← hn]; exact take_any c s k B w hs hk hp

theorem termP_false {l : List UInt8} (h : (wordP l).1 = false) : termP l = (false, (wordP l).2) := by unfold termP; rw [h]; rfl
theorem termP_true {l : List UInt8} (h : (wordP l).1 = true) : termP l = (true, (takeC 42 (wordP l).2).2) := by unfold termP; rw [h]; rfl

set_option maxHeartbeats 400000 in
theorem term_any (s : ByteArray) (k B : Nat) (w : World) (hs : s.size ≤ 1000) (hk : k ≤ s.size) (hp : Pa w B s k) :
    Calls Tryz.prog 210 #[.pointer (some ⟨B, 0, none⟩)] w (Res (termP (s.data.toList.drop k)) B s k w) := by
  go_enter Tryz.func210, Tryz.ntmps210
  go_wp2_with fail
  refine (word_any s k B _ hs hk hp).mono ?_
  rintro e w1 ⟨k1, rfl, h1, h2, hr, hP, hg⟩
  replace hr := hide hr
  replace hP := hide hP
  cases hb : (wordP (List.drop k s.data.toList)).1
  · have HT := hide (termP_false hb)
    go_wp2_with fail
    go_ret
    rw [HT.out]
    exact ⟨k1, rfl, h1, h2, hr.out, hP.out, hg⟩
  · have HT := hide (termP_true hb)
    go_wp2_with fail
    refine (take_num _ 42 rfl s k1 B _ hs h2 hP.out).mono ?_
    rintro e w2 ⟨k2, rfl, h3, h4, hr2, hP2, hg2⟩
    replace hr2 := hide hr2
    replace hP2 := hide hP2
    go_wp2_with fail
    go_ret
    rw [HT.out]
    exact ⟨k2, rfl, by omega, h4, by rw [hr.out]; exact hr2.out, hP2.out, grown_trans hg hg2⟩

theorem phraseP_false {f : Nat} {l : List UInt8} (h : (wordP l).1 = false) : phraseP (f + 1) l = (false, (wordP l).2) := by rw [phraseP, h]; rfl
theorem phraseP_end {f : Nat} {l : List UInt8} (h : (wordP l).1 = true) (h2 : (takeC 32 (wordP l).2).1 = false) : phraseP (f + 1) l = takeC 34 (wordP l).2 := by rw [phraseP, if_pos h, h2]; rfl
theorem phraseP_on {f : Nat} {l : List UInt8} (h : (wordP l).1 = true) (h2 : (takeC 32 (wordP l).2).1 = true) : phraseP (f + 1) l = phraseP f (takeC 32 (wordP l).2).2 := by rw [phraseP, if_pos h, if_pos h2]

theorem takeC_pos {c : UInt8} {s : ByteArray} {k k2 : Nat} (h : (takeC c (s.data.toList.drop k)).1 = true) (h2 : (takeC c (s.data.toList.drop k)).2 = s.data.toList.drop k2) (hk : k ≤ s.size) (hk2 : k2 ≤ s.size) : k2 = k + 1 := by
  have := (takeC_len c (s.data.toList.drop k)).2 h
  rw [h2, List.length_drop, List.length_drop] at this
  have hl : s.data.toList.length = s.size := by simp
  omega

set_option maxHeartbeats 400000 in
theorem phrase_any (s : ByteArray) (k B f : Nat) (w : World) (hs : s.size ≤ 1000) (hk : k ≤ s.size) (hf : s.size - k < f) (hp : Pa w B s k) :
    Calls Tryz.prog 209 #[.pointer (some ⟨B, 0, none⟩)] w (Res (phraseP f (s.data.toList.drop k)) B s k w) := by
  replace hp := hide hp
  go_enter Tryz.func209, Tryz.ntmps209
  go_wp2_with fail
  go_loopg [3] f (fun g u wr => ∃ j : Nat, k ≤ j ∧ j ≤ s.size ∧ s.size - j < g ∧ Hid (phraseP f (s.data.toList.drop k) = phraseP g (s.data.toList.drop j)) ∧ Hid (Pa wr B s j) ∧ w.grownBy wr (some B))
  case atStart => exact ⟨k, by omega, by omega, by omega, rfl, hp, grown_refl _ _⟩
  case round =>
    obtain ⟨j, h1, h2, h3, hE, hP, hg⟩ := hrel
    obtain ⟨g, rfl⟩ : ∃ g, gk = g + 1 := ⟨gk - 1, by omega⟩
    go_wp2_with fail
    refine (word_any s j B _ hs h2 hP.out).mono ?_
    rintro e w1 ⟨k1, rfl, a1, a2, hr, hP1, hg1⟩
    replace hr := hide hr
    replace hP1 := hide hP1
    cases hb : (wordP (List.drop j s.data.toList)).1
    · have HT := hide (phraseP_false (f := g) hb)
      go_wp2_with fail
      go_ret
      rw [hE.out, HT.out]
      exact ⟨k1, rfl, by omega, a2, hr.out, hP1.out, grown_trans hg hg1⟩
    · go_wp2_with fail
      refine (take_num _ 32 rfl s k1 B _ hs a2 hP1.out).mono ?_
      rintro e w2 ⟨k2, rfl, b1, b2, hr2, hP2, hg2⟩
      replace hr2 := hide hr2
      replace hP2 := hide hP2
      cases hc : (takeC 32 (List.drop k1 s.data.toList)).1
      · have HT := hide (phraseP_end (f := g) hb (by rw [hr.out]; exact hc))
        have hk2 : Hid (List.drop k2 s.data.toList = List.drop k1 s.data.toList) := by
          show _ = _
          rw [← hr2.out]; exact (takeC_no hc).1
        go_wp2_with fail
        refine (take_num _ 34 rfl s k2 B _ hs b2 hP2.out).mono ?_
        rintro e w3 ⟨k3, rfl, c1, c2, hr3, hP3, hg3⟩
        replace hr3 := hide hr3
        go_wp2_with fail
        go_ret
        rw [hE.out, HT.out, hr.out, ← hk2.out]
        exact ⟨k3, rfl, by omega, c2, hr3.out, hP3, grown_trans (grown_trans (grown_trans hg hg1) hg2) hg3⟩
      · have HT := hide (phraseP_on (f := g) hb (by rw [hr.out]; exact hc))
        have hpos := takeC_pos hc hr2.out a2 b2
        go_wp2_with fail
        go_roundg g
        case measure => omega
        case rel => exact ⟨k2, by omega, b2, by omega, by show _ = _; rw [hE.out, HT.out, hr.out, hr2.out], hP2, grown_trans (grown_trans hg hg1) hg2⟩
end Go.Proofs.YtcobkpapimnjaaaGreatDoor
