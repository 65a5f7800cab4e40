import Derived.Test.YtpdoacfiiledcaaGreatDoorChkI
namespace Go.Proofs.YtpdoacfiiledcaaGreatDoor
open Go.RowKit ChkM
set_option linter.unusedVariables false

set_option maxHeartbeats 1000000 in
set_option maxRecDepth 100000 in
theorem step_at2 (s : St) (v : Value) (c : UInt8) (S : Nat) (w : World) (h : Stn w S s v) (hl : s.op.length < 1000) (hz : S < w.heap.size) (ha : s.at_ = 2) :
    Calls Tryz.prog 173 #[.pointer (some ⟨S, 0, none⟩), .int .u8 c.toNat] w fun e w' => e = .returned (.tuple #[]) ∧ (∃ v', Stn w' S (stepA s c) v') ∧ Below S w w' := by
  have hc0 := h.c0
  rw [ha] at hc0
  have HJ := hide (step_2 s c ha)
  replace h := hide h
  clear ha
  go_enter Tryz.func173, Tryz.ntmps173
  go_wp2_with fail
  refine (isWord_any _ _).mono ?_
  rintro e w' ⟨rfl, rfl⟩
  go_wp2_with fail
  refine (joins_any s v c S _ h.out).mono ?_
  rintro e w1 ⟨rfl, ⟨v', hs⟩, hb⟩
  go_wp2_with fail
  go_end0
  rw [HJ.out]
  exact ⟨rfl, ⟨v', hs⟩, hb⟩

set_option maxHeartbeats 1000000 in
set_option maxRecDepth 100000 in
theorem step_at4 (s : St) (v : Value) (c : UInt8) (S : Nat) (w : World) (h : Stn w S s v) (hl : s.op.length < 1000) (hz : S < w.heap.size) (ha : 4 ≤ s.at_) (ha2 : s.at_ ≤ 1000) :
    Calls Tryz.prog 173 #[.pointer (some ⟨S, 0, none⟩), .int .u8 c.toNat] w fun e w' => e = .returned (.tuple #[]) ∧ (∃ v', Stn w' S (stepA s c) v') ∧ Below S w w' := by
  have hc0 := h.c0
  have HJ := hide (step_4 s c ha)
  replace h := hide h
  go_enter Tryz.func173, Tryz.ntmps173
  go_wp2_with fail
  refine (isWord_any _ _).mono ?_
  rintro e w' ⟨rfl, rfl⟩
  go_wp2_with fail
  go_end0
  rw [HJ.out]
  exact ⟨rfl, ⟨v, h.out⟩, Below.refl _ _⟩

set_option maxHeartbeats 1000000 in
set_option maxRecDepth 100000 in
theorem step_at1 (s : St) (v : Value) (c : UInt8) (S : Nat) (w : World) (h : Stn w S s v) (hl : s.op.length < 1000) (hz : S < w.heap.size) (ha : s.at_ = 1) :
    Calls Tryz.prog 173 #[.pointer (some ⟨S, 0, none⟩), .int .u8 c.toNat] w fun e w' => e = .returned (.tuple #[]) ∧ (∃ v', Stn w' S (stepA s c) v') ∧ Below S w w' := by
  have hc0 := h.c0
  rw [ha] at hc0
  have hc1 := h.c1
  have f0 := h.f 0
  have f1 := h.f 1
  have hn := h.hn
  have HS := hide (step_1 s c ha)
  replace h := hide h
  clear ha
  cases hw : isSm c
  · by_cases h42 : c = 42
    · have b1 := byte_eq c 42 42 rfl h42
      have HJ : Hid (stepA s c = { s with at_ := 2 }) := by show _ = _; rw [HS.out, if_neg (by simp [hw]), if_pos h42]
      clear h42
      go_enter Tryz.func173, Tryz.ntmps173
      go_wp2_with fail
      refine (isWord_any _ _).mono ?_
      rintro e w' ⟨rfl, rfl⟩
      rw [hw]
      go_wp2_with fail
      go_end0
      rw [HJ.out]
      exact ⟨rfl, ⟨v, h.out.set0 2⟩, Stn.below0⟩
    · have b1 := byte_ne c 42 42 rfl h42
      have HJ : Hid (stepA s c = joinsA s c) := by show _ = _; rw [HS.out, if_neg (by simp [hw]), if_neg h42, if_neg (by simp [hw])]
      clear h42
      go_enter Tryz.func173, Tryz.ntmps173
      go_wp2_with fail
      refine (isWord_any _ _).mono ?_
      rintro e w' ⟨rfl, rfl⟩
      rw [hw]
      go_wp2_with fail
      refine (joins_any s v c S _ h.out).mono ?_
      rintro e w1 ⟨rfl, ⟨v', hs⟩, hb⟩
      go_wp2_with fail
      go_end0
      rw [HJ.out]
      exact ⟨rfl, ⟨v', hs⟩, hb⟩
  · by_cases h8 : s.n < 8
    · have HJ : Hid (stepA s c = { s with n := s.n + 1 }) := by show _ = _; rw [HS.out, if_pos ⟨hw, h8⟩]
      go_enter Tryz.func173, Tryz.ntmps173
      go_wp2_with fail
      refine (isWord_any _ _).mono ?_
      rintro e w' ⟨rfl, rfl⟩
      rw [hw]
      go_wp2_with fail
      go_end0
      rw [HJ.out]
      exact ⟨rfl, ⟨v, h.out.set1 (s.n + 1) (by omega)⟩, Stn.below0⟩
    · have b1 := byte_ne c 42 42 rfl (small_not c hw).2.2.2.2.2.1
      have HJ : Hid (stepA s c = { s with at_ := 4 }) := by show _ = _; rw [HS.out, if_neg (fun e => h8 e.2), if_neg (small_not c hw).2.2.2.2.2.1, if_pos hw]
      go_enter Tryz.func173, Tryz.ntmps173
      go_wp2_with fail
      refine (isWord_any _ _).mono ?_
      rintro e w' ⟨rfl, rfl⟩
      rw [hw]
      go_wp2_with fail
      go_end0
      rw [HJ.out]
      exact ⟨rfl, ⟨v, h.out.set0 4⟩, Stn.below0⟩

set_option maxHeartbeats 1000000 in
set_option maxRecDepth 100000 in
theorem step_at3 (s : St) (v : Value) (c : UInt8) (S : Nat) (w : World) (h : Stn w S s v) (hl : s.op.length < 1000) (hz : S < w.heap.size) (ha : s.at_ = 3) :
    Calls Tryz.prog 173 #[.pointer (some ⟨S, 0, none⟩), .int .u8 c.toNat] w fun e w' => e = .returned (.tuple #[]) ∧ (∃ v', Stn w' S (stepA s c) v') ∧ Below S w w' := by
  have hc0 := h.c0
  rw [ha] at hc0
  have hc1 := h.c1
  have f0 := h.f 0
  have f1 := h.f 1
  have hn := h.hn
  have HS := hide (step_3 s c ha)
  replace h := hide h
  clear ha
  by_cases hx : isSm c = true ∧ s.n < 8
  · obtain ⟨hw, h8⟩ := hx
    have HJ : Hid (stepA s c = { s with n := s.n + 1 }) := by show _ = _; rw [HS.out, if_pos ⟨hw, h8⟩]
    go_enter Tryz.func173, Tryz.ntmps173
    go_wp2_with fail
    refine (isWord_any _ _).mono ?_
    rintro e w' ⟨rfl, rfl⟩
    rw [hw]
    go_wp2_with fail
    go_end0
    rw [HJ.out]
    exact ⟨rfl, ⟨v, h.out.set1 (s.n + 1) (by omega)⟩, Stn.below0⟩
  · by_cases h0 : 0 < s.n
    · by_cases h32 : c = 32
      · have b1 := byte_eq c 32 32 rfl h32
        have hw : isSm c = false := by rw [h32]; decide
        have HJ : Hid (stepA s c = { s with n := 0 }) := by show _ = _; rw [HS.out, if_neg hx, if_pos ⟨h32, h0⟩]
        clear h32 hx
        go_enter Tryz.func173, Tryz.ntmps173
        go_wp2_with fail
        refine (isWord_any _ _).mono ?_
        rintro e w' ⟨rfl, rfl⟩
        rw [hw]
        go_wp2_with fail
        go_end0
        rw [HJ.out]
        exact ⟨rfl, ⟨v, h.out.set1 0 (by omega)⟩, Stn.below0⟩
      · have b1 := byte_ne c 32 32 rfl h32
        by_cases h34 : c = 34
        · have b2 := byte_eq c 34 34 rfl h34
          have hw : isSm c = false := by rw [h34]; decide
          have HJ : Hid (stepA s c = { s with at_ := 2 }) := by show _ = _; rw [HS.out, if_neg hx, if_neg (fun e => h32 e.1), if_pos ⟨h34, h0⟩]
          clear h32 h34 hx
          go_enter Tryz.func173, Tryz.ntmps173
          go_wp2_with fail
          refine (isWord_any _ _).mono ?_
          rintro e w' ⟨rfl, rfl⟩
          rw [hw]
          go_wp2_with fail
          go_end0
          rw [HJ.out]
          exact ⟨rfl, ⟨v, h.out.set0 2⟩, Stn.below0⟩
        · have b2 := byte_ne c 34 34 rfl h34
          have HJ : Hid (stepA s c = { s with at_ := 4 }) := by show _ = _; rw [HS.out, if_neg hx, if_neg (fun e => h32 e.1), if_neg (fun e => h34 e.1)]
          clear h32 h34
          cases hw : isSm c
          · clear hx
            go_enter Tryz.func173, Tryz.ntmps173
            go_wp2_with fail
            refine (isWord_any _ _).mono ?_
            rintro e w' ⟨rfl, rfl⟩
            rw [hw]
            go_wp2_with fail
            go_end0
            rw [HJ.out]
            exact ⟨rfl, ⟨v, h.out.set0 4⟩, Stn.below0⟩
          · have h8 : ¬ s.n < 8 := fun e => hx ⟨hw, e⟩
            clear hx
            go_enter Tryz.func173, Tryz.ntmps173
            go_wp2_with fail
            refine (isWord_any _ _).mono ?_
            rintro e w' ⟨rfl, rfl⟩
            rw [hw]
            go_wp2_with fail
            go_end0
            rw [HJ.out]
            exact ⟨rfl, ⟨v, h.out.set0 4⟩, Stn.below0⟩
    · have HJ : Hid (stepA s c = { s with at_ := 4 }) := by show _ = _; rw [HS.out, if_neg hx, if_neg (fun e => h0 e.2), if_neg (fun e => h0 e.2)]
      have h8 : s.n < 8 := by omega
      have hw : isSm c = false := by
        cases hw : isSm c
        · rfl
        · exact absurd ⟨hw, h8⟩ hx
      clear hx
      by_cases h32 : c = 32
      · have b1 := byte_eq c 32 32 rfl h32
        have b2 := byte_ne c 34 34 rfl (by rw [h32]; decide)
        clear h32
        go_enter Tryz.func173, Tryz.ntmps173
        go_wp2_with fail
        refine (isWord_any _ _).mono ?_
        rintro e w' ⟨rfl, rfl⟩
        rw [hw]
        go_wp2_with fail
        go_end0
        rw [HJ.out]
        exact ⟨rfl, ⟨v, h.out.set0 4⟩, Stn.below0⟩
      · have b1 := byte_ne c 32 32 rfl h32
        clear h32
        by_cases h34 : c = 34
        · have b2 := byte_eq c 34 34 rfl h34
          clear h34
          go_enter Tryz.func173, Tryz.ntmps173
          go_wp2_with fail
          refine (isWord_any _ _).mono ?_
          rintro e w' ⟨rfl, rfl⟩
          rw [hw]
          go_wp2_with fail
          go_end0
          rw [HJ.out]
          exact ⟨rfl, ⟨v, h.out.set0 4⟩, Stn.below0⟩
        · have b2 := byte_ne c 34 34 rfl h34
          clear h34
          go_enter Tryz.func173, Tryz.ntmps173
          go_wp2_with fail
          refine (isWord_any _ _).mono ?_
          rintro e w' ⟨rfl, rfl⟩
          rw [hw]
          go_wp2_with fail
          go_end0
          rw [HJ.out]
          exact ⟨rfl, ⟨v, h.out.set0 4⟩, Stn.below0⟩

theorem step_any (s : St) (v : Value) (c : UInt8) (S : Nat) (w : World) (h : Stn w S s v) (hl : s.op.length < 1000) (hz : S < w.heap.size) (ha : s.at_ ≤ 4) :
    Calls Tryz.prog 173 #[.pointer (some ⟨S, 0, none⟩), .int .u8 c.toNat] w fun e w' => e = .returned (.tuple #[]) ∧ (∃ v', Stn w' S (stepA s c) v') ∧ Below S w w' := by
  by_cases h0 : s.at_ = 0
  · exact step_at0 s v c S w h hl hz h0
  · by_cases h1 : s.at_ = 1
    · exact step_at1 s v c S w h hl hz h1
    · by_cases h2 : s.at_ = 2
      · exact step_at2 s v c S w h hl hz h2
      · by_cases h3 : s.at_ = 3
        · exact step_at3 s v c S w h hl hz h3
        · exact step_at4 s v c S w h hl hz (by omega) (by omega)
end Go.Proofs.YtpdoacfiiledcaaGreatDoor
