import Derived.Test.YtpdoacfiiledcaaGreatDoorChkH
namespace Go.Proofs.YtpdoacfiiledcaaGreatDoor
open Go.RowKit ChkM
set_option linter.unusedVariables false

set_option maxHeartbeats 1000000 in
set_option maxRecDepth 100000 in
theorem part_any (s : St) (v : Value) (c : UInt8) (S : Nat) (w : World) (h : Stn w S s v) (hl : s.op.length < 1000) (hz : S < w.heap.size) :
    Calls Tryz.prog 280 #[.pointer (some ⟨S, 0, none⟩), .int .u8 c.toNat] w fun e w' => e = .returned (.tuple #[]) ∧ (∃ v', Stn w' S (partA s c) v') ∧ Below S w w' := by
  by_cases hx : isSm c = false ∧ c = 40 ∧ s.deep < 5
  · exact part_open_any s v c S w h hl hz hx.1 hx.2.1 hx.2.2
  have hc0 := h.c0
  have hc1 := h.c1
  have hc2 := h.c2
  have f0 := h.f 0
  have f1 := h.f 1
  have f2 := h.f 2
  have hd5 := h.hd
  replace h := hide h
  cases hw : isSm c
  · by_cases h34 : c = 34
    · have b1 := byte_eq c 34 34 rfl h34
      have HJ := hide (part_quote s c hw h34)
      clear h34 hx
      go_enter Tryz.func280, Tryz.ntmps280
      go_wp2_with fail
      refine (isWord_any _ _).mono ?_
      rintro e w' ⟨rfl, rfl⟩
      rw [hw]
      go_wp2_with fail
      go_end0
      rw [HJ.out]
      exact ⟨rfl, ⟨v, (h.out.set0 3).set1 0 (by omega)⟩, Stn.below0.trans Stn.below0⟩
    · have b1 := byte_ne c 34 34 rfl h34
      by_cases h33 : c = 33
      · have b2 := byte_eq c 33 33 rfl h33
        have b3 := byte_ne c 40 40 rfl (by rw [h33]; decide)
        by_cases hd : s.deep < 5
        · have HJ := hide (part_not s c hw h33 hd)
          clear h34 hx h33
          go_enter Tryz.func280, Tryz.ntmps280
          go_wp2_with fail
          refine (isWord_any _ _).mono ?_
          rintro e w' ⟨rfl, rfl⟩
          rw [hw]
          go_wp2_with fail
          go_end0
          rw [HJ.out]
          exact ⟨rfl, ⟨v, h.out.set2 (s.deep + 1) (by omega)⟩, Stn.below0⟩
        · have HJ := hide (part_bad s c hw h34 (fun e => hd e.2) (fun e => hd e.2))
          clear h34 hx h33
          go_enter Tryz.func280, Tryz.ntmps280
          go_wp2_with fail
          refine (isWord_any _ _).mono ?_
          rintro e w' ⟨rfl, rfl⟩
          rw [hw]
          go_wp2_with fail
          go_end0
          rw [HJ.out]
          exact ⟨rfl, ⟨v, h.out.set0 4⟩, Stn.below0⟩
      · have b2 := byte_ne c 33 33 rfl h33
        by_cases h40 : c = 40
        · have b3 := byte_eq c 40 40 rfl h40
          have hd : ¬ s.deep < 5 := fun e => hx ⟨hw, h40, e⟩
          have HJ := hide (part_bad s c hw h34 (fun e => hd e.2) (fun e => hd e.2))
          clear h34 hx h33 h40
          go_enter Tryz.func280, Tryz.ntmps280
          go_wp2_with fail
          refine (isWord_any _ _).mono ?_
          rintro e w' ⟨rfl, rfl⟩
          rw [hw]
          go_wp2_with fail
          go_end0
          rw [HJ.out]
          exact ⟨rfl, ⟨v, h.out.set0 4⟩, Stn.below0⟩
        · have b3 := byte_ne c 40 40 rfl h40
          have HJ := hide (part_bad s c hw h34 (fun e => h33 e.1) (fun e => h40 e.1))
          clear h34 hx h33 h40
          go_enter Tryz.func280, Tryz.ntmps280
          go_wp2_with fail
          refine (isWord_any _ _).mono ?_
          rintro e w' ⟨rfl, rfl⟩
          rw [hw]
          go_wp2_with fail
          go_end0
          rw [HJ.out]
          exact ⟨rfl, ⟨v, h.out.set0 4⟩, Stn.below0⟩
  · have HJ := hide (part_word s c hw)
    clear hx
    go_enter Tryz.func280, Tryz.ntmps280
    go_wp2_with fail
    refine (isWord_any _ _).mono ?_
    rintro e w' ⟨rfl, rfl⟩
    rw [hw]
    go_wp2_with fail
    go_end0
    rw [HJ.out]
    exact ⟨rfl, ⟨v, (h.out.set0 1).set1 1 (by omega)⟩, Stn.below0.trans Stn.below0⟩

theorem step_0 (s : St) (c : UInt8) (h : s.at_ = 0) : stepA s c = partA s c := by unfold stepA; rw [if_pos h]
theorem step_2 (s : St) (c : UInt8) (h : s.at_ = 2) : stepA s c = joinsA s c := by unfold stepA; rw [if_neg (by omega), if_neg (by omega), if_pos h]
theorem step_4 (s : St) (c : UInt8) (h : 4 ≤ s.at_) : stepA s c = s := by unfold stepA; rw [if_neg (by omega), if_neg (by omega), if_neg (by omega), if_neg (by omega)]
theorem step_1 (s : St) (c : UInt8) (h : s.at_ = 1) : stepA s c = if isSm c = true ∧ s.n < 8 then { s with n := s.n + 1 } else if c = 42 then { s with at_ := 2 } else if isSm c = true then { s with at_ := 4 } else joinsA s c := by
  unfold stepA; rw [if_neg (by omega), if_pos h]
theorem step_3 (s : St) (c : UInt8) (h : s.at_ = 3) : stepA s c = if isSm c = true ∧ s.n < 8 then { s with n := s.n + 1 } else if c = 32 ∧ 0 < s.n then { s with n := 0 } else if c = 34 ∧ 0 < s.n then { s with at_ := 2 } else { s with at_ := 4 } := by
  unfold stepA; rw [if_neg (by omega), if_neg (by omega), if_neg (by omega), if_pos h]

set_option maxHeartbeats 1000000 in
set_option maxRecDepth 100000 in
theorem step_at0 (s : St) (v : Value) (c : UInt8) (S : Nat) (w : World) (h : Stn w S s v) (hl : s.op.length < 1000) (hz : S < w.heap.size) (ha : s.at_ = 0) :
    Calls Tryz.prog 173 #[.pointer (some ⟨S, 0, none⟩), .int .u8 c.toNat] w fun e w' => e = .returned (.tuple #[]) ∧ (∃ v', Stn w' S (stepA s c) v') ∧ Below S w w' := by
  have hc0 := h.c0
  rw [ha] at hc0
  have HJ := hide (step_0 s c ha)
  replace h := hide h
  clear ha
  go_enter Tryz.func173, Tryz.ntmps173
  go_wp2_with fail
  refine (isWord_any _ _).mono ?_
  rintro e w' ⟨rfl, rfl⟩
  go_wp2_with fail
  refine (part_any s v c S _ h.out hl hz).mono ?_
  rintro e w1 ⟨rfl, ⟨v', hs⟩, hb⟩
  go_wp2_with fail
  go_end0
  rw [HJ.out]
  exact ⟨rfl, ⟨v', hs⟩, hb⟩
end Go.Proofs.YtpdoacfiiledcaaGreatDoor
