import Derived.Test.YtpdoacfiiledcaaGreatDoorSplN
import Derived.Test.YtpdoacfiiledcaaGreatDoorChkN
namespace Go.Proofs.YtpdoacfiiledcaaGreatDoor.Spl
open Go.RowKit Go.Proofs.YtpdoacfiiledcaaGreatDoor.SiftM
set_option linter.unusedVariables false

theorem sp_len : ∀ (f : Nat) (l : List UInt8), (sp f l).length ≤ l.length
  | 0, l => by simp [sp]
  | f + 1, l => by
    unfold sp
    by_cases h : l.length = 0
    · rw [if_pos h]; simp
    · rw [if_neg h, List.length_append]
      have ih := sp_len f (l.drop ((l.takeWhile isW).length + 1))
      rw [List.length_drop] at ih
      split
      · simp; omega
      · simp; omega

set_option maxHeartbeats 1000000 in
set_option maxRecDepth 100000 in
theorem free1_ok (B P : Nat) (F : List One) (v : Value) (a b c d : Int) (s : ByteArray) (l n f : Value) (w : World) (hI : Inv w P F v) (hT : Tab B w) (hB : B ≤ P) (hF : (F.length + 1) * 104 ≤ 140737488355328) (hs : s.size ≤ 120) :
    Calls Tryz.prog 42 #[.pointer (some ⟨P, 0, none⟩), opA 1 a b c d s l n f] w fun e w' => e = .returned (.bool true) ∧ (∃ x v', Inv w' P (F ++ [x]) v') ∧ Below P w w' := by
  unfold opA
  have hPlt := heap_lt hI.hP
  have hsl : (sp s.size s.data.toList).length ≤ 120 := by
    have h1 := sp_len s.size s.data.toList
    have h2 : s.data.toList.length = s.size := by simp
    omega
  obtain ⟨W, hW⟩ : ∃ W, sp s.size s.data.toList = W := ⟨_, rfl⟩
  rw [hW] at hsl
  replace hW := hide hW
  replace hI := hide hI
  replace hT := hide hT
  go_enter Tryz.func42, Tryz.ntmps42
  go_wp2_with fail
  refine (words_ok s _ hs).mono ?_
  rintro e w1 ⟨v1, rfl, hown1, hb1⟩
  rw [hW.out] at hown1
  have hc5 := box_cell (j := 5) rfl hb1
  have hz1 : w.heap.size + 1 ≤ w1.heap.size := by simpa using hb1.size
  have hb1' : Below (w.heap.size + 1) (w.alloc (.cells #[.int .i64 1, .int .i64 a, .int .i64 b, .int .i64 c, .int .i64 d, .string s, l, n, f] 69)) w1 := by simpa using hb1
  have hb0 : Below w.heap.size w w1 := ((Below.refl _ _).alloc (Nat.le_refl _) _).trans (hb1'.mono (by omega))
  rw [World.size_alloc] at hown1
  clear hb1
  go_wp2_with fail
  refine (rwords_ok s _ hs).mono ?_
  rintro e w2 ⟨v2, rfl, hown2, hb2⟩
  rw [hW.out] at hown2
  have hz2 := hb2.size
  have hown1' := owns_below hown1 hb2
  clear hown1 hc5
  go_wp2_with fail
  refine (same_owned v1 v2 _ _ W _ (by omega) hown1' hown2).mono ?_
  rintro e w3 ⟨rfl, hb3⟩
  have hz3 := hb3.size
  have hown3 := owns_below hown1' hb3
  have hb4 : Below w.heap.size w w3 := (hb0.trans (hb2.mono (by omega))).trans (hb3.mono (by omega))
  have hT3 := hide (tab_on hT.out (hb4.mono (by omega)))
  clear hown1' hown2 hb2 hb3 hb0 hb1'
  go_wp2_with fail
  refine (string_any B P (w.heap.size + 1) W.length F v v1 (strV W) w _ hI.out hb4 (by omega) (by omega) hT3.out hB hF (by omega) hown3).mono ?_
  rintro e w4 ⟨rfl, hinv, hb5⟩
  go_wp2_with fail
  go_ret
  exact ⟨rfl, hinv, (hb4.mono (by omega)).trans hb5⟩

set_option maxHeartbeats 1000000 in
set_option maxRecDepth 100000 in
theorem free1_long (B P : Nat) (F : List One) (v : Value) (a b c d : Int) (s : ByteArray) (l n f : Value) (w : World) (hI : Inv w P F v) (hT : Tab B w) (hB : B ≤ P) (hF : (F.length + 1) * 104 ≤ 140737488355328) (hs : 120 < s.size) :
    Calls Tryz.prog 42 #[.pointer (some ⟨P, 0, none⟩), opA 1 a b c d s l n f] w fun e w' => e = .returned (.bool true) ∧ (∃ x v', Inv w' P (F ++ [x]) v') ∧ Below P w w' := by
  unfold opA
  have hPlt := heap_lt hI.hP
  replace hI := hide hI
  replace hT := hide hT
  have hnil : ∀ w, (binOp .eql 67 (.slice none 0 0) (.slice none 0 0)).run Tryz.prog w = .ok (.bool true) w := fun _ => by kernel_rfl
  go_enter Tryz.func42, Tryz.ntmps42
  go_wp2_with fail
  refine (words_long s _ hs).mono ?_
  rintro e w1 ⟨rfl, rfl⟩
  go_wp2_with fail
  refine (rwords_long s _ hs).mono ?_
  rintro e w2 ⟨rfl, rfl⟩
  go_wp2_with fail
  refine (same_none none none 0 0 _).mono ?_
  rintro e w3 ⟨rfl, hb3⟩
  rw [World.size_alloc] at hb3
  have hz3 : w.heap.size + 1 ≤ w3.heap.size := by simpa using hb3.size
  have hb4 : Below w.heap.size w w3 := ((Below.refl _ _).alloc (Nat.le_refl _) _).trans (hb3.mono (by omega))
  have hT3 := hide (tab_on hT.out (hb4.mono (by omega)))
  clear hb3
  go_wp2_with fail
  refine (string_any B P (w.heap.size + 1) 0 F v (.slice none 0 0) [] w _ hI.out hb4 (by omega) (by omega) hT3.out hB hF (by omega) (World.ownsRow_nil _ _ _ _)).mono ?_
  rintro e w4 ⟨rfl, hinv, hb5⟩
  go_wp2_with fail
  go_ret
  exact ⟨rfl, hinv, (hb4.mono (by omega)).trans hb5⟩

theorem free1_any (B P : Nat) (F : List One) (v : Value) (a b c d : Int) (s : ByteArray) (l n f : Value) (w : World) (hI : Inv w P F v) (hT : Tab B w) (hB : B ≤ P) (hF : (F.length + 1) * 104 ≤ 140737488355328) :
    Calls Tryz.prog 42 #[.pointer (some ⟨P, 0, none⟩), opA 1 a b c d s l n f] w fun e w' => e = .returned (.bool true) ∧ (∃ x v', Inv w' P (F ++ [x]) v') ∧ Below P w w' := by
  by_cases hs : s.size ≤ 120
  · exact free1_ok B P F v a b c d s l n f w hI hT hB hF hs
  · exact free1_long B P F v a b c d s l n f w hI hT hB hF (by omega)

set_option maxHeartbeats 400000 in
set_option maxRecDepth 100000 in
theorem wstep1_any (B P : Nat) (F : List One) (v : Value) (a b c d : Int) (s : ByteArray) (l n f : Value) (w : World) (hI : Inv w P F v) (hT : Tab B w) (hB : B ≤ P) (hF : (F.length + 1) * 104 ≤ 140737488355328) :
    Calls Tryz.prog 24 #[.pointer (some ⟨P, 0, none⟩), opA 1 a b c d s l n f] w fun e w' => e = .returned (.bool true) ∧ (∃ x v', Inv w' P (F ++ [x]) v') ∧ Below P w w' := by
  unfold opA
  have hPlt := heap_lt hI.hP
  have hb0 : Below w.heap.size w (w.alloc (.cells #[.int .i64 1, .int .i64 a, .int .i64 b, .int .i64 c, .int .i64 d, .string s, l, n, f] 69)) := (Below.refl _ _).alloc (Nat.le_refl _) _
  have hI0 := hide (inv_later hI hb0)
  have hT0 := hide (tab_on hT (hb0.mono (by omega)))
  replace hI := hide hI
  replace hT := hide hT
  go_enter Tryz.func24, Tryz.ntmps24
  go_wp2_with fail
  refine (free1_any B P F v a b c d s l n f _ hI0.out hT0.out hB hF).mono ?_
  rintro e w1 ⟨rfl, hinv, hb1⟩
  go_wp2_with fail
  go_ret
  exact ⟨rfl, hinv, (hb0.mono (by omega)).trans hb1⟩
end Go.Proofs.YtpdoacfiiledcaaGreatDoor.Spl
