import Derived.Test.YtcobkpapimnjaaaGreatDoorChkC
namespace Go.Proofs.YtcobkpapimnjaaaGreatDoor
open Go.RowKit ChkM
set_option linter.unusedVariables false

/-- What a reader of the descent does, with fuel f: function F for the kind tag. -/
def CD (F tag f : Nat) : Prop := ∀ (s : ByteArray) (k B d : Nat) (w : World), s.size ≤ 1000 → k ≤ s.size → 3 * (s.size - k) + tag + 1 ≤ f → d ≤ 1000 → Pa w B s k →
  Calls Tryz.prog F #[.pointer (some ⟨B, 0, none⟩), .int .i64 d] w (Res (ps f tag d (s.data.toList.drop k)) B s k w)

theorem all_false {f d : Nat} {l : List UInt8} (h : (ps f 0 d l).1 = false) : ps (f + 1) 1 d l = (false, (ps f 0 d l).2) := by rw [ps, h]; rfl
theorem all_end {f d : Nat} {l : List UInt8} (h : (ps f 0 d l).1 = true) (h2 : (takeC 38 (ps f 0 d l).2).1 = false) : ps (f + 1) 1 d l = (true, (ps f 0 d l).2) := by rw [ps, if_pos h, h2]; rfl
theorem all_on {f d : Nat} {l : List UInt8} (h : (ps f 0 d l).1 = true) (h2 : (takeC 38 (ps f 0 d l).2).1 = true) : ps (f + 1) 1 d l = ps f 1 d (takeC 38 (ps f 0 d l).2).2 := by rw [ps, if_pos h, if_pos h2]
theorem query_false {f d : Nat} {l : List UInt8} (h : (ps f 1 d l).1 = false) : ps (f + 1) 2 d l = (false, (ps f 1 d l).2) := by rw [ps, h]; rfl
theorem query_end {f d : Nat} {l : List UInt8} (h : (ps f 1 d l).1 = true) (h2 : (takeC 124 (ps f 1 d l).2).1 = false) : ps (f + 1) 2 d l = (true, (ps f 1 d l).2) := by rw [ps, if_pos h, h2]; rfl
theorem query_on {f d : Nat} {l : List UInt8} (h : (ps f 1 d l).1 = true) (h2 : (takeC 124 (ps f 1 d l).2).1 = true) : ps (f + 1) 2 d l = ps f 2 d (takeC 124 (ps f 1 d l).2).2 := by rw [ps, if_pos h, if_pos h2]

set_option maxHeartbeats 400000 in
theorem all_of (f : Nat) (ih : ∀ g, g < f → CD 188 0 g) : CD 168 1 f := by
  intro s k B d w hs hk hf hd hp
  replace hp := hide hp
  replace ih := hide ih
  go_enter Tryz.func168, Tryz.ntmps168
  go_wp2_with fail
  go_loopg [5] f (fun g u wr => ∃ j : Nat, g ≤ f ∧ k ≤ j ∧ j ≤ s.size ∧ 3 * (s.size - j) + 1 + 1 ≤ g ∧ Hid (ps f 1 d (s.data.toList.drop k) = ps g 1 d (s.data.toList.drop j)) ∧ Hid (Pa wr B s j) ∧ w.grownBy wr (some B))
  case atStart => exact ⟨k, by omega, by omega, by omega, by omega, rfl, hp, grown_refl _ _⟩
  case round =>
    obtain ⟨j, h0, h1, h2, h3, hE, hP, hg⟩ := hrel
    obtain ⟨g, rfl⟩ : ∃ g, gk = g + 1 := ⟨gk - 1, by omega⟩
    go_wp2_with fail
    refine (ih.out g (by omega) s j B d _ hs h2 (by omega) hd hP.out).mono ?_
    rintro e w1 ⟨k1, rfl, a1, a2, hr, hP1, hg1⟩
    replace hr := hide hr
    replace hP1 := hide hP1
    cases hb : (ps g 0 d (List.drop j s.data.toList)).1
    · have HT := hide (all_false hb)
      go_wp2_with fail
      go_ret
      rw [hE.out, HT.out]
      exact ⟨k1, rfl, by omega, a2, hr.out, hP1.out, grown_trans hg hg1⟩
    · go_wp2_with fail
      refine (take_num _ 38 rfl s k1 B _ hs a2 hP1.out).mono ?_
      rintro e w2 ⟨k2, rfl, b1, b2, hr2, hP2, hg2⟩
      replace hr2 := hide hr2
      replace hP2 := hide hP2
      cases hc : (takeC 38 (List.drop k1 s.data.toList)).1
      · have HT := hide (all_end hb (by rw [hr.out]; exact hc))
        have hk2 : Hid (List.drop k2 s.data.toList = List.drop k1 s.data.toList) := by
          show _ = _
          rw [← hr2.out]; exact (takeC_no hc).1
        go_wp2_with fail
        go_ret
        rw [hE.out, HT.out]
        exact ⟨k2, rfl, by omega, b2, by show (ps g 0 d (List.drop j s.data.toList)).2 = _; rw [hr.out, hk2.out], hP2.out, grown_trans (grown_trans hg hg1) hg2⟩
      · have HT := hide (all_on hb (by rw [hr.out]; exact hc))
        have hpos := takeC_pos hc hr2.out a2 b2
        go_wp2_with fail
        go_roundg g
        case measure => omega
        case rel => exact ⟨k2, by omega, by omega, b2, by omega, by show _ = _; rw [hE.out, HT.out, hr.out, hr2.out], hP2, grown_trans (grown_trans hg hg1) hg2⟩

set_option maxHeartbeats 400000 in
theorem query_of (f : Nat) (ih : ∀ g, g < f → CD 168 1 g) : CD 132 2 f := by
  intro s k B d w hs hk hf hd hp
  replace hp := hide hp
  replace ih := hide ih
  go_enter Tryz.func132, Tryz.ntmps132
  go_wp2_with fail
  go_loopg [5] f (fun g u wr => ∃ j : Nat, g ≤ f ∧ k ≤ j ∧ j ≤ s.size ∧ 3 * (s.size - j) + 2 + 1 ≤ g ∧ Hid (ps f 2 d (s.data.toList.drop k) = ps g 2 d (s.data.toList.drop j)) ∧ Hid (Pa wr B s j) ∧ w.grownBy wr (some B))
  case atStart => exact ⟨k, by omega, by omega, by omega, by omega, rfl, hp, grown_refl _ _⟩
  case round =>
    obtain ⟨j, h0, h1, h2, h3, hE, hP, hg⟩ := hrel
    obtain ⟨g, rfl⟩ : ∃ g, gk = g + 1 := ⟨gk - 1, by omega⟩
    go_wp2_with fail
    refine (ih.out g (by omega) s j B d _ hs h2 (by omega) hd hP.out).mono ?_
    rintro e w1 ⟨k1, rfl, a1, a2, hr, hP1, hg1⟩
    replace hr := hide hr
    replace hP1 := hide hP1
    cases hb : (ps g 1 d (List.drop j s.data.toList)).1
    · have HT := hide (query_false hb)
      go_wp2_with fail
      go_ret
      rw [hE.out, HT.out]
      exact ⟨k1, rfl, by omega, a2, hr.out, hP1.out, grown_trans hg hg1⟩
    · go_wp2_with fail
      refine (take_num _ 124 rfl s k1 B _ hs a2 hP1.out).mono ?_
      rintro e w2 ⟨k2, rfl, b1, b2, hr2, hP2, hg2⟩
      replace hr2 := hide hr2
      replace hP2 := hide hP2
      cases hc : (takeC 124 (List.drop k1 s.data.toList)).1
      · have HT := hide (query_end hb (by rw [hr.out]; exact hc))
        have hk2 : Hid (List.drop k2 s.data.toList = List.drop k1 s.data.toList) := by
          show _ = _
          rw [← hr2.out]; exact (takeC_no hc).1
        go_wp2_with fail
        go_ret
        rw [hE.out, HT.out]
        exact ⟨k2, rfl, by omega, b2, by show (ps g 1 d (List.drop j s.data.toList)).2 = _; rw [hr.out, hk2.out], hP2.out, grown_trans (grown_trans hg hg1) hg2⟩
      · have HT := hide (query_on hb (by rw [hr.out]; exact hc))
        have hpos := takeC_pos hc hr2.out a2 b2
        go_wp2_with fail
        go_roundg g
        case measure => omega
        case rel => exact ⟨k2, by omega, by omega, b2, by omega, by show _ = _; rw [hE.out, HT.out, hr.out, hr2.out], hP2, grown_trans (grown_trans hg hg1) hg2⟩

theorem part_bang {f d : Nat} {l : List UInt8} (hd : d < 5) (h : (takeC 33 l).1 = true) : ps (f + 1) 0 d l = ps f 0 (d + 1) (takeC 33 l).2 := by rw [ps, if_pos ⟨hd, h⟩]
theorem part_open {f d : Nat} {l : List UInt8} (hd : d < 5) (h : (takeC 33 l).1 = false) (h2 : (takeC 40 l).1 = true) :
    ps (f + 1) 0 d l = if (ps f 2 (d + 1) (takeC 40 l).2).1 then takeC 41 (ps f 2 (d + 1) (takeC 40 l).2).2 else (false, (ps f 2 (d + 1) (takeC 40 l).2).2) := by
  rw [ps, if_neg (by simp [h]), if_pos ⟨hd, h2⟩]
theorem part_low {f d : Nat} {l : List UInt8} (h : d < 5 → (takeC 33 l).1 = false) (h2 : d < 5 → (takeC 40 l).1 = false) :
    ps (f + 1) 0 d l = if (takeC 34 l).1 then phraseP (l.length + 1) (takeC 34 l).2 else termP l := by
  rw [ps, if_neg, if_neg]
  · rintro ⟨a, b⟩; rw [h2 a] at b; simp at b
  · rintro ⟨a, b⟩; rw [h a] at b; simp at b

/-- The part's end: a phrase or a term. -/
theorem low_res {p : Bool × List UInt8} {B : Nat} {s : ByteArray} {k k' : Nat} {w w1 : World} (hk : k ≤ k') (hg : w.grownBy w1 (some B)) {e : Ending} {w' : World} (h : Res p B s k' w1 e w') : Res p B s k w e w' := by
  obtain ⟨j, h1, h2, h3, h4, h5, h6⟩ := h
  exact ⟨j, h1, by omega, h3, h4, h5, grown_trans hg h6⟩
end Go.Proofs.YtcobkpapimnjaaaGreatDoor
