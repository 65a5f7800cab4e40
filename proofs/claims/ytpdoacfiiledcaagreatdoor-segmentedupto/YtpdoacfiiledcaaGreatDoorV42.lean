import Derived.Test.YtpdoacfiiledcaaGreatDoorV41
import Derived.Test.YtpdoacfiiledcaaGreatDoorV38
namespace Go.Proofs.YtpdoacfiiledcaaGreatDoor
open Go.RowKit ChkM
set_option linter.unusedVariables false

set_option maxHeartbeats 1000000 in
set_option maxRecDepth 100000 in
theorem part_any (s : St) (v : Value) (c : UInt8) (S : Nat) (w : World) (h : Stn w S s v) (hl : s.op.length < 1000) (hz : S < w.heap.size) :
    Calls Tryz.prog 280 #[.pointer (some ⟨S, 0, none⟩), .int .u8 c.toNat] w fun e w' => e = .returned (.tuple #[]) ∧ (∃ v', Stn w' S (partA s c) v') ∧ Below S w w' := by
  by_cases hx : isSm c = false ∧ c = 40 ∧ s.deep < 5
  · exact part_open_any s v c S w h hl hz hx.1 hx.2.1 hx.2.2
  have hc0 := h.c0
  have hc1 := h.c1
  have hc2 := h.c2
  have f0 := h.f 0
  have f1 := h.f 1
  have f2 := h.f 2
  have hd5 := h.hd
  replace h := hide h
  cases hw : isSm c
  · by_cases h34 : c = 34
    · have b1 := byte_eq c 34 34 rfl h34
      have HJ := hide (part_quote s c hw h34)
      clear h34 hx
      go_enter Tryz.func280, Tryz.ntmps280
      go_wp2_with fail
      refine (isWord_any _ _).mono ?_
      rintro e w' ⟨rfl, rfl⟩
      rw [hw]
      go_wp2_with fail
      go_end0
      rw [HJ.out]
      exact ⟨rfl, ⟨v, (h.out.set0 3).set1 0 (by omega)⟩, Stn.below0.trans Stn.below0⟩
    · have b1 := byte_ne c 34 34 rfl h34
      by_cases h33 : c = 33
      · have b2 := byte_eq c 33 33 rfl h33
        have b3 := byte_ne c 40 40 rfl (by rw [h33]; decide)
        by_cases hd : s.deep < 5
        · have HJ := hide (part_not s c hw h33 hd)
          clear h34 hx h33
          go_enter Tryz.func280, Tryz.ntmps280
          go_wp2_with fail
          refine (isWord_any _ _).mono ?_
          rintro e w' ⟨rfl, rfl⟩
          rw [hw]
          go_wp2_with fail
          go_end0
          rw [HJ.out]
          exact ⟨rfl, ⟨v, h.out.set2 (s.deep + 1) (by omega)⟩, Stn.below0⟩
        · have HJ := hide (part_bad s c hw h34 (fun e => hd e.2) (fun e => hd e.2))
          clear h34 hx h33
          go_enter Tryz.func280, Tryz.ntmps280
          go_wp2_with fail
          refine (isWord_any _ _).mono ?_
          rintro e w' ⟨rfl, rfl⟩
          rw [hw]
          go_wp2_with fail
          go_end0
          rw [HJ.out]
          exact ⟨rfl, ⟨v, h.out.set0 4⟩, Stn.below0⟩
      · have b2 := byte_ne c 33 33 rfl h33
        by_cases h40 : c = 40
        · have b3 := byte_eq c 40 40 rfl h40
          have hd : ¬ s.deep < 5 := fun e => hx ⟨hw, h40, e⟩
          have HJ := hide (part_bad s c hw h34 (fun e => hd e.2) (fun e => hd e.2))
          clear h34 hx h33 h40
          go_enter Tryz.func280, Tryz.ntmps280
          go_wp2_with fail
          refine (isWord_any _ _).mono ?_
          rintro e w' ⟨rfl, rfl⟩
          rw [hw]
          go_wp2_with fail
          go_end0
          rw [HJ.out]
          exact ⟨rfl, ⟨v, h.out.set0 4⟩, Stn.below0⟩
        · have b3 := byte_ne c 40 40 rfl h40
          have HJ := hide (part_bad s c hw h34 (fun e => h33 e.1) (fun e => h40 e.1))
          clear h34 hx h33 h40
          go_enter Tryz.func280, Tryz.ntmps280
          go_wp2_with fail
          refine (isWord_any _ _).mono ?_
          rintro e w' ⟨rfl, rfl⟩
          rw [hw]
          go_wp2_with fail
          go_end0
          rw [HJ.out]
          exact ⟨rfl, ⟨v, h.out.set0 4⟩, Stn.below0⟩
  · have HJ := hide (part_word s c hw)
    clear hx
    go_enter Tryz.func280, Tryz.ntmps280
    go_wp2_with fail
    refine (isWord_any _ _).mono ?_
    rintro e w' ⟨rfl, rfl⟩
    rw [hw]
    go_wp2_with fail
    go_end0
    rw [HJ.out]
    exact ⟨rfl, ⟨v, (h.out.set0 1).set1 1 (by omega)⟩, Stn.below0.trans Stn.below0⟩

theorem step_0 (s : St) (c : UInt8) (h : s.at_ = 0) : stepA s c = partA s c := by unfold stepA; rw [if_pos h]
theorem step_2 (s : St) (c : UInt8) (h : s.at_ = 2) : stepA s c = joinsA s c := by unfold stepA; rw [if_neg (by omega), if_neg (by omega), if_pos h]
theorem step_4 (s : St) (c : UInt8) (h : 4 ≤ s.at_) : stepA s c = s := by unfold stepA; rw [if_neg (by omega), if_neg (by omega), if_neg (by omega), if_neg (by omega)]
theorem step_1 (s : St) (c : UInt8) (h : s.at_ = 1) : stepA s c = if isSm c = true ∧ s.n < 8 then { s with n := s.n + 1 } else if c = 42 then { s with at_ := 2 } else if isSm c = true then { s with at_ := 4 } else joinsA s c := by
  unfold stepA; rw [if_neg (by omega), if_pos h]
theorem step_3 (s : St) (c : UInt8) (h : s.at_ = 3) : stepA s c = if isSm c = true ∧ s.n < 8 then { s with n := s.n + 1 } else if c = 32 ∧ 0 < s.n then { s with n := 0 } else if c = 34 ∧ 0 < s.n then { s with at_ := 2 } else { s with at_ := 4 } := by
  unfold stepA; rw [if_neg (by omega), if_neg (by omega), if_neg (by omega), if_pos h]

set_option maxHeartbeats 1000000 in
set_option maxRecDepth 100000 in
theorem step_at0 (s : St) (v : Value) (c : UInt8) (S : Nat) (w : World) (h : Stn w S s v) (hl : s.op.length < 1000) (hz : S < w.heap.size) (ha : s.at_ = 0) :
    Calls Tryz.prog 173 #[.pointer (some ⟨S, 0, none⟩), .int .u8 c.toNat] w fun e w' => e = .returned (.tuple #[]) ∧ (∃ v', Stn w' S (stepA s c) v') ∧ Below S w w' := by
  have hc0 := h.c0
  rw [ha] at hc0
  have HJ := hide (step_0 s c ha)
  replace h := hide h
  clear ha
  go_enter Tryz.func173, Tryz.ntmps173
  go_wp2_with fail
  refine (isWord_any _ _).mono ?_
  rintro e w' ⟨rfl, rfl⟩
  go_wp2_with fail
  refine (part_any s v c S _ h.out hl hz).mono ?_
  rintro e w1 ⟨rfl, ⟨v', hs⟩, hb⟩
  go_wp2_with fail
  go_end0
  rw [HJ.out]
  exact ⟨rfl, ⟨v', hs⟩, hb⟩
end Go.Proofs.YtpdoacfiiledcaaGreatDoor

namespace Go.Proofs.YtpdoacfiiledcaaGreatDoor
open Go.RowKit ChkM
set_option linter.unusedVariables false

set_option maxHeartbeats 1000000 in
set_option maxRecDepth 100000 in
theorem step_at2 (s : St) (v : Value) (c : UInt8) (S : Nat) (w : World) (h : Stn w S s v) (hl : s.op.length < 1000) (hz : S < w.heap.size) (ha : s.at_ = 2) :
    Calls Tryz.prog 173 #[.pointer (some ⟨S, 0, none⟩), .int .u8 c.toNat] w fun e w' => e = .returned (.tuple #[]) ∧ (∃ v', Stn w' S (stepA s c) v') ∧ Below S w w' := by
  have hc0 := h.c0
  rw [ha] at hc0
  have HJ := hide (step_2 s c ha)
  replace h := hide h
  clear ha
  go_enter Tryz.func173, Tryz.ntmps173
  go_wp2_with fail
  refine (isWord_any _ _).mono ?_
  rintro e w' ⟨rfl, rfl⟩
  go_wp2_with fail
  refine (joins_any s v c S _ h.out).mono ?_
  rintro e w1 ⟨rfl, ⟨v', hs⟩, hb⟩
  go_wp2_with fail
  go_end0
  rw [HJ.out]
  exact ⟨rfl, ⟨v', hs⟩, hb⟩

set_option maxHeartbeats 1000000 in
set_option maxRecDepth 100000 in
theorem step_at4 (s : St) (v : Value) (c : UInt8) (S : Nat) (w : World) (h : Stn w S s v) (hl : s.op.length < 1000) (hz : S < w.heap.size) (ha : 4 ≤ s.at_) (ha2 : s.at_ ≤ 1000) :
    Calls Tryz.prog 173 #[.pointer (some ⟨S, 0, none⟩), .int .u8 c.toNat] w fun e w' => e = .returned (.tuple #[]) ∧ (∃ v', Stn w' S (stepA s c) v') ∧ Below S w w' := by
  have hc0 := h.c0
  have HJ := hide (step_4 s c ha)
  replace h := hide h
  go_enter Tryz.func173, Tryz.ntmps173
  go_wp2_with fail
  refine (isWord_any _ _).mono ?_
  rintro e w' ⟨rfl, rfl⟩
  go_wp2_with fail
  go_end0
  rw [HJ.out]
  exact ⟨rfl, ⟨v, h.out⟩, Below.refl _ _⟩

set_option maxHeartbeats 1000000 in
set_option maxRecDepth 100000 in
theorem step_at1 (s : St) (v : Value) (c : UInt8) (S : Nat) (w : World) (h : Stn w S s v) (hl : s.op.length < 1000) (hz : S < w.heap.size) (ha : s.at_ = 1) :
    Calls Tryz.prog 173 #[.pointer (some ⟨S, 0, none⟩), .int .u8 c.toNat] w fun e w' => e = .returned (.tuple #[]) ∧ (∃ v', Stn w' S (stepA s c) v') ∧ Below S w w' := by
  have hc0 := h.c0
  rw [ha] at hc0
  have hc1 := h.c1
  have f0 := h.f 0
  have f1 := h.f 1
  have hn := h.hn
  have HS := hide (step_1 s c ha)
  replace h := hide h
  clear ha
  cases hw : isSm c
  · by_cases h42 : c = 42
    · have b1 := byte_eq c 42 42 rfl h42
      have HJ : Hid (stepA s c = { s with at_ := 2 }) := by show _ = _; rw [HS.out, if_neg (by simp [hw]), if_pos h42]
      clear h42
      go_enter Tryz.func173, Tryz.ntmps173
      go_wp2_with fail
      refine (isWord_any _ _).mono ?_
      rintro e w' ⟨rfl, rfl⟩
      rw [hw]
      go_wp2_with fail
      go_end0
      rw [HJ.out]
      exact ⟨rfl, ⟨v, h.out.set0 2⟩, Stn.below0⟩
    · have b1 := byte_ne c 42 42 rfl h42
      have HJ : Hid (stepA s c = joinsA s c) := by show _ = _; rw [HS.out, if_neg (by simp [hw]), if_neg h42, if_neg (by simp [hw])]
      clear h42
      go_enter Tryz.func173, Tryz.ntmps173
      go_wp2_with fail
      refine (isWord_any _ _).mono ?_
      rintro e w' ⟨rfl, rfl⟩
      rw [hw]
      go_wp2_with fail
      refine (joins_any s v c S _ h.out).mono ?_
      rintro e w1 ⟨rfl, ⟨v', hs⟩, hb⟩
      go_wp2_with fail
      go_end0
      rw [HJ.out]
      exact ⟨rfl, ⟨v', hs⟩, hb⟩
  · by_cases h8 : s.n < 8
    · have HJ : Hid (stepA s c = { s with n := s.n + 1 }) := by show _ = _; rw [HS.out, if_pos ⟨hw, h8⟩]
      go_enter Tryz.func173, Tryz.ntmps173
      go_wp2_with fail
      refine (isWord_any _ _).mono ?_
      rintro e w' ⟨rfl, rfl⟩
      rw [hw]
      go_wp2_with fail
      go_end0
      rw [HJ.out]
      exact ⟨rfl, ⟨v, h.out.set1 (s.n + 1) (by omega)⟩, Stn.below0⟩
    · have b1 := byte_ne c 42 42 rfl (small_not c hw).2.2.2.2.2.1
      have HJ : Hid (stepA s c = { s with at_ := 4 }) := by show _ = _; rw [HS.out, if_neg (fun e => h8 e.2), if_neg (small_not c hw).2.2.2.2.2.1, if_pos hw]
      go_enter Tryz.func173, Tryz.ntmps173
      go_wp2_with fail
      refine (isWord_any _ _).mono ?_
      rintro e w' ⟨rfl, rfl⟩
      rw [hw]
      go_wp2_with fail
      go_end0
      rw [HJ.out]
      exact ⟨rfl, ⟨v, h.out.set0 4⟩, Stn.below0⟩

set_option maxHeartbeats 1000000 in
set_option maxRecDepth 100000 in
theorem step_at3 (s : St) (v : Value) (c : UInt8) (S : Nat) (w : World) (h : Stn w S s v) (hl : s.op.length < 1000) (hz : S < w.heap.size) (ha : s.at_ = 3) :
    Calls Tryz.prog 173 #[.pointer (some ⟨S, 0, none⟩), .int .u8 c.toNat] w fun e w' => e = .returned (.tuple #[]) ∧ (∃ v', Stn w' S (stepA s c) v') ∧ Below S w w' := by
  have hc0 := h.c0
  rw [ha] at hc0
  have hc1 := h.c1
  have f0 := h.f 0
  have f1 := h.f 1
  have hn := h.hn
  have HS := hide (step_3 s c ha)
  replace h := hide h
  clear ha
  by_cases hx : isSm c = true ∧ s.n < 8
  · obtain ⟨hw, h8⟩ := hx
    have HJ : Hid (stepA s c = { s with n := s.n + 1 }) := by show _ = _; rw [HS.out, if_pos ⟨hw, h8⟩]
    go_enter Tryz.func173, Tryz.ntmps173
    go_wp2_with fail
    refine (isWord_any _ _).mono ?_
    rintro e w' ⟨rfl, rfl⟩
    rw [hw]
    go_wp2_with fail
    go_end0
    rw [HJ.out]
    exact ⟨rfl, ⟨v, h.out.set1 (s.n + 1) (by omega)⟩, Stn.below0⟩
  · by_cases h0 : 0 < s.n
    · by_cases h32 : c = 32
      · have b1 := byte_eq c 32 32 rfl h32
        have hw : isSm c = false := by rw [h32]; decide
        have HJ : Hid (stepA s c = { s with n := 0 }) := by show _ = _; rw [HS.out, if_neg hx, if_pos ⟨h32, h0⟩]
        clear h32 hx
        go_enter Tryz.func173, Tryz.ntmps173
        go_wp2_with fail
        refine (isWord_any _ _).mono ?_
        rintro e w' ⟨rfl, rfl⟩
        rw [hw]
        go_wp2_with fail
        go_end0
        rw [HJ.out]
        exact ⟨rfl, ⟨v, h.out.set1 0 (by omega)⟩, Stn.below0⟩
      · have b1 := byte_ne c 32 32 rfl h32
        by_cases h34 : c = 34
        · have b2 := byte_eq c 34 34 rfl h34
          have hw : isSm c = false := by rw [h34]; decide
          have HJ : Hid (stepA s c = { s with at_ := 2 }) := by show _ = _; rw [HS.out, if_neg hx, if_neg (fun e => h32 e.1), if_pos ⟨h34, h0⟩]
          clear h32 h34 hx
          go_enter Tryz.func173, Tryz.ntmps173
          go_wp2_with fail
          refine (isWord_any _ _).mono ?_
          rintro e w' ⟨rfl, rfl⟩
          rw [hw]
          go_wp2_with fail
          go_end0
          rw [HJ.out]
          exact ⟨rfl, ⟨v, h.out.set0 2⟩, Stn.below0⟩
        · have b2 := byte_ne c 34 34 rfl h34
          have HJ : Hid (stepA s c = { s with at_ := 4 }) := by show _ = _; rw [HS.out, if_neg hx, if_neg (fun e => h32 e.1), if_neg (fun e => h34 e.1)]
          clear h32 h34
          cases hw : isSm c
          · clear hx
            go_enter Tryz.func173, Tryz.ntmps173
            go_wp2_with fail
            refine (isWord_any _ _).mono ?_
            rintro e w' ⟨rfl, rfl⟩
            rw [hw]
            go_wp2_with fail
            go_end0
            rw [HJ.out]
            exact ⟨rfl, ⟨v, h.out.set0 4⟩, Stn.below0⟩
          · have h8 : ¬ s.n < 8 := fun e => hx ⟨hw, e⟩
            clear hx
            go_enter Tryz.func173, Tryz.ntmps173
            go_wp2_with fail
            refine (isWord_any _ _).mono ?_
            rintro e w' ⟨rfl, rfl⟩
            rw [hw]
            go_wp2_with fail
            go_end0
            rw [HJ.out]
            exact ⟨rfl, ⟨v, h.out.set0 4⟩, Stn.below0⟩
    · have HJ : Hid (stepA s c = { s with at_ := 4 }) := by show _ = _; rw [HS.out, if_neg hx, if_neg (fun e => h0 e.2), if_neg (fun e => h0 e.2)]
      have h8 : s.n < 8 := by omega
      have hw : isSm c = false := by
        cases hw : isSm c
        · rfl
        · exact absurd ⟨hw, h8⟩ hx
      clear hx
      by_cases h32 : c = 32
      · have b1 := byte_eq c 32 32 rfl h32
        have b2 := byte_ne c 34 34 rfl (by rw [h32]; decide)
        clear h32
        go_enter Tryz.func173, Tryz.ntmps173
        go_wp2_with fail
        refine (isWord_any _ _).mono ?_
        rintro e w' ⟨rfl, rfl⟩
        rw [hw]
        go_wp2_with fail
        go_end0
        rw [HJ.out]
        exact ⟨rfl, ⟨v, h.out.set0 4⟩, Stn.below0⟩
      · have b1 := byte_ne c 32 32 rfl h32
        clear h32
        by_cases h34 : c = 34
        · have b2 := byte_eq c 34 34 rfl h34
          clear h34
          go_enter Tryz.func173, Tryz.ntmps173
          go_wp2_with fail
          refine (isWord_any _ _).mono ?_
          rintro e w' ⟨rfl, rfl⟩
          rw [hw]
          go_wp2_with fail
          go_end0
          rw [HJ.out]
          exact ⟨rfl, ⟨v, h.out.set0 4⟩, Stn.below0⟩
        · have b2 := byte_ne c 34 34 rfl h34
          clear h34
          go_enter Tryz.func173, Tryz.ntmps173
          go_wp2_with fail
          refine (isWord_any _ _).mono ?_
          rintro e w' ⟨rfl, rfl⟩
          rw [hw]
          go_wp2_with fail
          go_end0
          rw [HJ.out]
          exact ⟨rfl, ⟨v, h.out.set0 4⟩, Stn.below0⟩

theorem step_any (s : St) (v : Value) (c : UInt8) (S : Nat) (w : World) (h : Stn w S s v) (hl : s.op.length < 1000) (hz : S < w.heap.size) (ha : s.at_ ≤ 4) :
    Calls Tryz.prog 173 #[.pointer (some ⟨S, 0, none⟩), .int .u8 c.toNat] w fun e w' => e = .returned (.tuple #[]) ∧ (∃ v', Stn w' S (stepA s c) v') ∧ Below S w w' := by
  by_cases h0 : s.at_ = 0
  · exact step_at0 s v c S w h hl hz h0
  · by_cases h1 : s.at_ = 1
    · exact step_at1 s v c S w h hl hz h1
    · by_cases h2 : s.at_ = 2
      · exact step_at2 s v c S w h hl hz h2
      · by_cases h3 : s.at_ = 3
        · exact step_at3 s v c S w h hl hz h3
        · exact step_at4 s v c S w h hl hz (by omega) (by omega)
end Go.Proofs.YtpdoacfiiledcaaGreatDoor

namespace Go.Proofs.YtpdoacfiiledcaaGreatDoor
open Go.RowKit ChkM
set_option linter.unusedVariables false

theorem joins_le (s : St) (c : UInt8) : (joinsA s c).at_ ≤ 4 ∧ (joinsA s c).op.length ≤ s.op.length := by
  unfold joinsA
  split
  · exact ⟨Nat.zero_le _, Nat.le_refl _⟩
  · split
    · exact ⟨by show 2 ≤ 4; omega, by show s.op.tail.length ≤ _; simp⟩
    · exact ⟨Nat.le_refl _, Nat.le_refl _⟩
theorem step_le (s : St) (c : UInt8) (h : s.at_ ≤ 4) : (stepA s c).at_ ≤ 4 ∧ (stepA s c).op.length ≤ s.op.length + 1 := by
  have hj := joins_le s c
  unfold stepA
  split
  · unfold partA
    repeat' split
    all_goals (constructor <;> simp <;> omega)
  · repeat' split
    all_goals first | exact ⟨hj.1, by omega⟩ | exact ⟨h, Nat.le_succ _⟩ | exact ⟨by show 2 ≤ 4; omega, Nat.le_succ _⟩ | exact ⟨by show 4 ≤ 4; omega, Nat.le_succ _⟩

theorem refAns_dead {l r : List UInt8} {s : St} (h : runA ⟨0, 0, 0, []⟩ l = (some r, s)) : refAns l = (8, l.length - r.length) := by unfold refAns; rw [h]
theorem refAns_yes {l : List UInt8} {s : St} (h : runA ⟨0, 0, 0, []⟩ l = (none, s)) (h2 : (s.at_ = 1 ∨ s.at_ = 2) ∧ s.op = []) : refAns l = (0, 0) := by unfold refAns; rw [h]; simp only; rw [if_pos h2]
theorem refAns_no {l : List UInt8} {s : St} (h : runA ⟨0, 0, 0, []⟩ l = (none, s)) (h2 : ¬ ((s.at_ = 1 ∨ s.at_ = 2) ∧ s.op = [])) : refAns l = (8, l.length) := by unfold refAns; rw [h]; simp only; rw [if_neg h2]

set_option maxHeartbeats 400000 in
theorem rcheck_long (s : ByteArray) (w : World) (hs : 60 < s.size) :
    Calls Tryz.prog 76 #[.string s] w fun e w' => e = .returned (.tuple #[.int .i64 4, .int .i64 0]) ∧ w' = w := by
  go_enter Tryz.func76, Tryz.ntmps76
  go_wp2_with fail
  go_ret2
  exact ⟨rfl, rfl⟩

theorem stn_new (w : World) : Stn (w.alloc (.cells #[.int .i64 0, .int .i64 0, .int .i64 0, .slice none 0 0] 258)) w.heap.size ⟨0, 0, 0, []⟩ (.slice none 0 0) :=
  ⟨by rw [World.cell?_alloc_at _ _ _ _ rfl]; rfl, by rw [World.cell?_alloc_at _ _ _ _ rfl]; rfl, by rw [World.cell?_alloc_at _ _ _ _ rfl]; rfl, by rw [World.cell?_alloc_at _ _ _ _ rfl]; rfl,
    World.ownsRow_nil _ _ _ _, fun j => World.frozen?_alloc_at _ _ _ _ rfl, by simp, by simp, by simp, by simp⟩

set_option maxHeartbeats 400000 in
set_option maxRecDepth 100000 in
theorem rcheck_ok (s : ByteArray) (w : World) (hs : s.size ≤ 60) :
    Calls Tryz.prog 76 #[.string s] w fun e w' => ∃ (a : Int) (k : Nat), e = .returned (.tuple #[.int .i64 a, .int .i64 k]) ∧ Hid (refAns s.data.toList = (a, k)) ∧ Below w.heap.size w w' := by
  have hl : Hid (s.data.toList.length = s.size) := by show _ = _; simp
  go_enter Tryz.func76, Tryz.ntmps76
  go_wp2_with fail
  go_loopw [5] (fun i wr => ∃ (k : Nat) (st : St) (v : Value), k ≤ s.size ∧ i = .int .i64 k ∧ Stn wr w.heap.size st v ∧ st.at_ ≤ 3 ∧ st.op.length ≤ k ∧ Hid (runA ⟨0, 0, 0, []⟩ s.data.toList = runA st (s.data.toList.drop k)) ∧ Below w.heap.size w wr ∧ w.heap.size < wr.heap.size) (fun i _ => s.size - (intOf i).toNat)
  case atStart => exact ⟨0, ⟨0, 0, 0, []⟩, _, Nat.zero_le _, rfl, stn_new w, by decide, by decide, rfl, (Below.refl _ _).alloc (Nat.le_refl _) _, by simp⟩
  case round =>
    obtain ⟨k, st, v, hk, rfl, hS, ha, ho, hR, hb, hz⟩ := hrel
    by_cases hlt : k < s.size
    · have hd := hide (drop_at s k hlt)
      replace hS := hide hS
      go_wp2_with fail
      refine (step_any st v s[k] w.heap.size _ hS.out (by omega) hz (by omega)).mono ?_
      rintro e w1 ⟨rfl, ⟨v1, hS1⟩, hb1⟩
      have hle := step_le st s[k] (by omega)
      have hz1 := hb1.size
      have hc0 := hS1.c0
      by_cases h4 : (stepA st s[k]).at_ = 4
      · have hq : (((stepA st s[k]).at_ : Int) == 4) = true := by rw [beq_iff_eq]; omega
        have HF : Hid (refAns s.data.toList = (8, k)) := by
          show _ = _
          rw [refAns_dead (r := s.data.toList.drop k) (s := stepA st s[k]) (by rw [hR.out, hd.out]; exact run_dead rfl h4)]
          rw [List.length_drop, hl.out, show s.size - (s.size - k) = k by omega]
        clear h4 hle hS1
        go_wp2_with fail
        go_ret2
        exact ⟨8, k, rfl, HF, hb.trans hb1⟩
      · have hq : (((stepA st s[k]).at_ : Int) == 4) = false := by rw [beq_eq_false_iff_ne]; omega
        have HR : Hid (runA ⟨0, 0, 0, []⟩ s.data.toList = runA (stepA st s[k]) (s.data.toList.drop (k + 1))) := by
          show _ = _
          rw [hR.out, hd.out]; exact run_live rfl h4
        replace hS1 := hide hS1
        go_wp2_with fail
        go_roundw
        case rel => exact ⟨k + 1, stepA st s[k], v1, by omega, by go_num, hS1.out, by omega, by omega, HR, hb.trans hb1, by omega⟩
        case measure => simp [intOf]; omega
    · have he : Hid (runA ⟨0, 0, 0, []⟩ s.data.toList = (none, st)) := by
        show _ = _
        rw [hR.out, drop_end s k hlt]; rfl
      have hc0 := hS.c0
      have hc3 := hS.c3
      obtain ⟨a, cap, hv⟩ : ∃ a cap, v = .slice a st.op.length cap := by
        rcases hS.own.2 with ⟨rfl, h0⟩ | ⟨g, cap, cur, rfl, _⟩
        · exact ⟨none, 0, by rw [h0]⟩
        · exact ⟨_, _, rfl⟩
      rw [hv] at hc3
      by_cases hacc : (st.at_ = 1 ∨ st.at_ = 2) ∧ st.op = []
      · have HF : Hid (refAns s.data.toList = (0, 0)) := refAns_yes he.out hacc
        have ho0 : st.op.length = 0 := by rw [hacc.2]; rfl
        rw [ho0] at hc3
        clear hS ho0
        rcases hacc.1 with h1 | h1
        · rw [h1] at hc0
          clear hacc h1
          go_wp2_with fail
          go_ret2
          exact ⟨0, 0, rfl, HF, hb⟩
        · rw [h1] at hc0
          clear hacc h1
          go_wp2_with fail
          go_ret2
          exact ⟨0, 0, rfl, HF, hb⟩
      · have HF : Hid (refAns s.data.toList = (8, s.size)) := by
          show _ = _
          rw [refAns_no he.out hacc, hl.out]
        clear hS
        by_cases h1 : st.at_ = 1
        · have h0 : ((st.op.length : Int) == 0) = false := by
            rw [beq_eq_false_iff_ne]; intro e; exact hacc ⟨Or.inl h1, List.length_eq_zero_iff.1 (by omega)⟩
          rw [h1] at hc0
          clear hacc h1
          go_wp2_with fail
          go_ret2
          exact ⟨8, s.size, rfl, HF, hb⟩
        · by_cases h2 : st.at_ = 2
          · have h0 : ((st.op.length : Int) == 0) = false := by
              rw [beq_eq_false_iff_ne]; intro e; exact hacc ⟨Or.inr h2, List.length_eq_zero_iff.1 (by omega)⟩
            rw [h2] at hc0
            clear hacc h1 h2
            go_wp2_with fail
            go_ret2
            exact ⟨8, s.size, rfl, HF, hb⟩
          · have q1 : ((st.at_ : Int) == 1) = false := by rw [beq_eq_false_iff_ne]; omega
            have q2 : ((st.at_ : Int) == 2) = false := by rw [beq_eq_false_iff_ne]; omega
            clear hacc
            go_wp2_with fail
            go_ret2
            exact ⟨8, s.size, rfl, HF, hb⟩
end Go.Proofs.YtpdoacfiiledcaaGreatDoor

namespace Go.Proofs.YtpdoacfiiledcaaGreatDoor
open Go.RowKit ChkM
set_option linter.unusedVariables false

/-- A step of a script, as it lies in memory. -/
def opA (k a b c d : Int) (s : ByteArray) (l n f : Value) : Value := .agg #[.int .i64 k, .int .i64 a, .int .i64 b, .int .i64 c, .int .i64 d, .string s, l, n, f]

/-- The box of a step: its cells in whatever later world. -/
theorem box_cell {w w1 : World} {cs : Array Value} {t : TypeId} {j : Nat} {x : Value} (hj : cs[j]? = some x) (hb : Below (w.alloc (.cells cs t)).heap.size (w.alloc (.cells cs t)) w1) : w1.cell? ⟨w.heap.size, j, none⟩ = some x := by
  rw [hb.cell (by show w.heap.size < _; simp), World.cell?_alloc_at _ _ _ _ rfl]; exact hj

set_option maxHeartbeats 400000 in
set_option maxRecDepth 100000 in
theorem free_long (p : Value) (a b c d : Int) (s : ByteArray) (l n f : Value) (w : World) (hs : 60 < s.size) :
    Calls Tryz.prog 42 #[p, opA 2 a b c d s l n f] w fun e w' => e = .returned (.bool true) ∧ Below w.heap.size w w' := by
  unfold opA
  go_enter Tryz.func42, Tryz.ntmps42
  go_wp2_with fail
  refine (check_long s _ hs).mono ?_
  rintro e w1 ⟨rfl, hb1⟩
  have hc5 := box_cell (j := 5) rfl hb1
  have hb0 : Below w.heap.size w w1 := ((Below.refl _ _).alloc (Nat.le_refl _) _).trans (hb1.mono (by simp))
  clear hb1
  go_wp2_with fail
  refine (rcheck_long s _ hs).mono ?_
  rintro e w' ⟨rfl, rfl⟩
  go_wp2_with fail
  go_ret
  exact ⟨rfl, hb0⟩

set_option maxHeartbeats 400000 in
set_option maxRecDepth 100000 in
theorem free_ok (p : Value) (a b c d : Int) (s : ByteArray) (l n f : Value) (w : World) (hs : s.size ≤ 60) :
    Calls Tryz.prog 42 #[p, opA 2 a b c d s l n f] w fun e w' => e = .returned (.bool true) ∧ Below w.heap.size w w' := by
  unfold opA
  have ht := hide (same_ans s.data.toList)
  go_enter Tryz.func42, Tryz.ntmps42
  go_wp2_with fail
  refine (check_ok s _ hs).mono ?_
  rintro e w1 ⟨a1, k1, rfl, h1, hk1, hb1⟩
  have hc5 := box_cell (j := 5) rfl hb1
  have hz1 := hb1.size
  have hz2 : w.heap.size + 1 ≤ w1.heap.size := by simpa using hz1
  have hb0 : Below w.heap.size w w1 := ((Below.refl _ _).alloc (Nat.le_refl _) _).trans (hb1.mono (by simp))
  clear hz1 hb1
  go_wp2_with fail
  refine (rcheck_ok s _ hs).mono ?_
  rintro e w2 ⟨a2, k2, rfl, h2, hb2⟩
  have he : (a1, k1) = (a2, k2) := h1.out.symm.trans (ht.out.trans h2.out)
  obtain ⟨rfl, rfl⟩ : a1 = a2 ∧ k1 = k2 := by injection he with x y; exact ⟨x, y⟩
  clear h1 h2 ht he
  go_wp2_with fail
  go_ret
  exact ⟨rfl, hb0.trans (hb2.mono (by omega))⟩

theorem free_any (p : Value) (a b c d : Int) (s : ByteArray) (l n f : Value) (w : World) :
    Calls Tryz.prog 42 #[p, opA 2 a b c d s l n f] w fun e w' => e = .returned (.bool true) ∧ Below w.heap.size w w' := by
  by_cases hs : s.size ≤ 60
  · exact free_ok p a b c d s l n f w hs
  · exact free_long p a b c d s l n f w (by omega)

end Go.Proofs.YtpdoacfiiledcaaGreatDoor

set_option linter.unusedVariables false
set_option linter.unusedSimpArgs false
set_option maxRecDepth 100000
namespace Go.Proofs.YtpdoacfiiledcaaGreatDoor.Pak
open Go.RowKit Go.Proofs.YtpdoacfiiledcaaGreatDoor Go.Proofs.YtpdoacfiiledcaaGreatDoor.Spl SiftM

theorem two_cells {w : World} {b : Nat} {x y : Value} {t : TypeId} (h : w.heap[b]? = some (.cells #[x, y] t (0, 0))) : w.cell? ⟨b, 0, none⟩ = some x ∧ w.cell? ⟨b, 1, none⟩ = some y := by
  simp [World.cell?, h]
def opC (k a b c d : Int) (s : ByteArray) (l n f : Value) : Array Value := #[.int .i64 k, .int .i64 a, .int .i64 b, .int .i64 c, .int .i64 d, .string s, l, n, f]
theorem op_cells {w : World} {g : Nat} {k a b c d : Int} {s : ByteArray} {l n f : Value} {t : TypeId} (h : w.heap[g]? = some (.cells (opC k a b c d s l n f) t (0, 0))) : w.cell? ⟨g, 0, none⟩ = some (.int .i64 k) ∧ w.cell? ⟨g, 1, none⟩ = some (.int .i64 a) ∧ w.cell? ⟨g, 2, none⟩ = some (.int .i64 b) ∧ w.cell? ⟨g, 5, none⟩ = some (.string s) := by
  simp [World.cell?, h, opC]

end Go.Proofs.YtpdoacfiiledcaaGreatDoor.Pak

