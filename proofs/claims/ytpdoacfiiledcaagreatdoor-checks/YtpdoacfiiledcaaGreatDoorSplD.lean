import Derived.Test.YtpdoacfiiledcaaGreatDoorSplC
namespace Go.Proofs.YtpdoacfiiledcaaGreatDoor.Spl
open Go.RowKit Go.Proofs.YtpdoacfiiledcaaGreatDoor Go.Proofs.YtpdoacfiiledcaaGreatDoor.SiftM
set_option linter.unusedVariables false

theorem Tryz.info9 : (Tryz.prog.info? 9).map (fun i => (i.zero, i.size, i.bytes)) = some (some (.string ⟨#[]⟩), 1, 16) := by kernel_rfl

theorem grown_of_below {w w' : World} (h : Below w.heap.size w w') : w.grownBy w' none := ⟨h.os, h.tape, h.output, h.size, fun k hk _ => h.block k hk⟩
theorem owns_below {w w' : World} {base : Nat} {e : TypeId} {size : Nat} {v : Value} {n : Nat} {xs : List Value} (h : w.ownsRow base e size v n xs) (hb : Below w.heap.size w w') : w'.ownsRow base e size v n xs :=
  h.kept (grown_of_below hb) (Classical.em _)
/-- The values of a list of words. -/
def strV (l : List (List UInt8)) : List Value := l.map fun s => Value.string ⟨s.toArray⟩
theorem strV_length (l : List (List UInt8)) : (strV l).length = l.length := by simp [strV]
theorem strV_snoc (l : List (List UInt8)) (x : List UInt8) : strV (l ++ [x]) = strV l ++ [Value.string ⟨x.toArray⟩] := by simp [strV]

theorem runE_run (s : ByteArray) (k : Nat) (hk : k ≤ s.size) : (s.extract k (runE s k)).data.toList = (s.data.toList.drop k).takeWhile isW := by
  rw [Lib.extract_data]
  unfold runE
  rw [show k + ((s.data.toList.drop k).takeWhile isW).length - k = ((s.data.toList.drop k).takeWhile isW).length by omega]
  exact (List.prefix_iff_eq_take.1 (List.takeWhile_prefix _)).symm
theorem runE_le (s : ByteArray) (k : Nat) (hk : k ≤ s.size) : k ≤ runE s k ∧ runE s k ≤ s.size := by
  unfold runE
  have h := (List.takeWhile_prefix (l := s.data.toList.drop k) isW).length_le
  have hl : s.data.toList.length = s.size := by simp
  rw [List.length_drop] at h
  omega
theorem sp_open (s : ByteArray) (k : Nat) (hk : k < s.size) : sp s.size (s.data.toList.drop k) =
    (if ((s.data.toList.drop k).takeWhile isW).length = 0 then [] else [wordL ((s.data.toList.drop k).takeWhile isW)]) ++ sp s.size (s.data.toList.drop (runE s k + 1)) := by
  have hl : s.data.toList.length = s.size := by simp
  obtain ⟨f, hf⟩ : ∃ f, s.size = f + 1 := ⟨s.size - 1, by omega⟩
  rw [hf]
  conv => lhs; unfold sp
  rw [if_neg (by rw [List.length_drop]; omega), List.drop_drop]
  rw [show k + (((s.data.toList.drop k).takeWhile isW).length + 1) = runE s k + 1 by unfold runE; omega]
  rw [sp_fuel f (f + 1) _ (by rw [List.length_drop]; omega) (by rw [List.length_drop]; omega)]
theorem sp_step_word (s : ByteArray) (k : Nat) (acc : List (List UInt8)) (hk : k < s.size) (he : k < runE s k)
    (h : acc ++ sp s.size (s.data.toList.drop k) = sp s.size s.data.toList) :
    (acc ++ [wordL (s.extract k (runE s k)).data.toList]) ++ sp s.size (s.data.toList.drop (runE s k + 1)) = sp s.size s.data.toList := by
  rw [← h, sp_open s k hk, runE_run s k (by omega), if_neg (by unfold runE at he; omega), List.append_assoc]
theorem sp_step_none (s : ByteArray) (k : Nat) (acc : List (List UInt8)) (hk : k < s.size) (he : ¬ k < runE s k)
    (h : acc ++ sp s.size (s.data.toList.drop k) = sp s.size s.data.toList) :
    acc ++ sp s.size (s.data.toList.drop (runE s k + 1)) = sp s.size s.data.toList := by
  rw [← h, sp_open s k hk, if_pos (by unfold runE at he; omega), List.nil_append]
theorem sp_done (s : ByteArray) (k : Nat) (acc : List (List UInt8)) (hk : ¬ k < s.size)
    (h : acc ++ sp s.size (s.data.toList.drop k) = sp s.size s.data.toList) : acc = sp s.size s.data.toList := by
  rw [← h, List.drop_of_length_le (by simp; omega), sp_nil, List.append_nil]

set_option maxHeartbeats 400000 in
set_option maxRecDepth 100000 in
theorem splitW_any (s : ByteArray) (w : World) (hs : s.size ≤ 1000) :
    Calls Tryz.prog 170 #[.string s] w fun e w' => ∃ v, e = .returned v ∧ w'.ownsRow w.heap.size 9 1 v (sp s.size s.data.toList).length (strV (sp s.size s.data.toList)) ∧ Below w.heap.size w w' := by
  obtain ⟨i0, hi, hz0, hz1, hz2⟩ := info_parts Tryz.info9
  go_enter Tryz.func170, Tryz.ntmps170
  go_wp2_with fail
  go_loopw [3, 4] (fun v i wr => ∃ k : Nat, ∃ acc : List (List UInt8), k ≤ s.size + 1 ∧ acc.length ≤ k ∧ i = .int .i64 k ∧ wr.ownsRow w.heap.size 9 1 v acc.length (strV acc) ∧ acc ++ sp s.size (s.data.toList.drop k) = sp s.size s.data.toList ∧ Below w.heap.size w wr) (fun _ i _ => s.size + 1 - (intOf i).toNat)
  case atStart => exact ⟨0, [], Nat.zero_le _, Nat.zero_le _, rfl, World.ownsRow_nil _ _ _ _, rfl, Below.refl _ _⟩
  case round =>
    obtain ⟨k, acc, h1, h2, rfl, hown, hsp, hb⟩ := hrel
    have hbz := hb.size
    by_cases hlt : k < s.size
    · have hr := runE_le s k (by omega)
      by_cases he : k < runE s k
      · have HS := hide (sp_step_word s k acc hlt he hsp)
        replace hsp := hide hsp
        go_wp2_with fail
        refine (runEnd_any _ _ _ (by omega) (by omega)).mono ?_
        rintro e w' ⟨rfl, rfl⟩
        go_wp2_with fail
        refine (wordOf_any _ _ (by simp; omega)).mono ?_
        rintro e w1 ⟨rfl, hb1⟩
        have hown1 := owns_below hown hb1
        have hbz1 := hb1.size
        go_wp2_with (first
          | (at_builtin; refine wpList_append_own _ rfl _ _ 67 rfl w.heap.size 9 i0 (.string ⟨#[]⟩) 1 16 Tryz.underlying67 hi hz0 hz1 hz2 rfl (by decide) _ _ _ rfl (hown1.alloc _) ⟨w1.heap.size, 0, none⟩ 1 1 [.string ⟨(wordL (s.extract k (runE s k)).data.toList).toArray⟩] rfl rfl ?c1 ?c2 ?c3 ?c4 ?c5 ?_)
          | fail)
        case c1 =>
          intro j u hj
          match j, hj with
          | 0, hj => simp at hj; subst hj; simp [Addr.add]
        case c2 => intro u hu; simp at hu; subst hu; rfl
        case c3 => unfold maxLen; omega
        case c4 => omega
        case c5 => simp; omega
        intro v' w2 hown2 hgrow _
        go_wp2_with fail
        go_roundw
        case rel => 
          refine ⟨runE s k + 1, acc ++ [wordL (s.extract k (runE s k)).data.toList], by omega, by simp; omega, by go_num, ?_, HS.out, ?_⟩
          · rw [strV_snoc]; simpa using hown2
          · exact ((hb.trans (hb1.mono hbz)).alloc (by omega) _).grown hgrow (by simp; omega) (fun k hk => (hown1.lt k hk).1)
        case measure => simp [intOf]; omega
      · have HS := hide (sp_step_none s k acc hlt he hsp)
        replace hsp := hide hsp
        go_wp2_with fail
        refine (runEnd_any _ _ _ (by omega) (by omega)).mono ?_
        rintro e w' ⟨rfl, rfl⟩
        go_wp2_with fail
        go_roundw
        case rel => exact ⟨runE s k + 1, acc, by omega, by omega, by go_num, hown, HS.out, hb⟩
        case measure => simp [intOf]; omega
    · have HS := hide (sp_done s k acc hlt hsp)
      replace hsp := hide hsp
      go_wp2_with fail
      go_ret
      exact ⟨_, rfl, by rw [← HS.out]; exact hown, hb⟩
end Go.Proofs.YtpdoacfiiledcaaGreatDoor.Spl
