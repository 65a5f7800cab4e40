import Derived.Test.YtpdoacfiiledcaaSplitA
import Derived.Lib.SlBytesRow
import Derived.Lib.ConvBytes
namespace Go.Proofs.Ytpdoacfiiledcaa
open Go.RowKit SiftM

set_option maxHeartbeats 400000 in
theorem pick_any (c : Int) (w : World) (h1 : -9223372036854775808 ≤ c) (h2 : c ≤ 9223372036854775807) :
    Calls Try.prog 12 #[.int .i64 c, .int .i64 1099511627776] w fun e w' => e = .returned (.int .i64 (pickN c)) ∧ w' = w := by
  by_cases h : c < 0
  · have e : Hid ((pickN c : Int) = (-(c + 1)) % 1099511627776) := by
      show (pickN c : Int) = _
      unfold pickN; rw [if_pos h]; omega
    go_enter Try.func12, Try.ntmps12
    go_wp2
    go_ret
    exact ⟨ret_int (by rw [e.out, ← Int.neg_tmod, Int.tmod_eq_emod_of_nonneg (by omega)]), rfl⟩
  · have e : Hid ((pickN c : Int) = c % 1099511627776) := by
      show (pickN c : Int) = _
      unfold pickN; rw [if_neg h]; omega
    go_enter Try.func12, Try.ntmps12
    go_wp2
    go_ret
    exact ⟨ret_int (by rw [e.out]), rfl⟩

theorem pickN_lt (c : Int) : pickN c < 1099511627776 := by
  unfold pickN; omega

/-- The cells of a list of strings. -/
def strs (l : List (List UInt8)) : Array Value := (l.map fun s => Value.string ⟨s.toArray⟩).toArray

set_option maxHeartbeats 400000 in
theorem voc_any (w : World) :
    Calls Try.prog 13 #[] w fun e w' => e = .returned (.slice (some ⟨w.heap.size, 0, none⟩) 10 10) ∧ w' = w.alloc (.cells (strs vocL) 9) := by
  go_enter Try.func13, Try.ntmps13
  go_wp2
  go_ret
  exact ⟨rfl, rfl⟩

theorem one_byte (w : World) (x : Int) (c : UInt8) (hx : (c.toNat : Int) = x) : Lib.Bytes (w.alloc (.cells #[.int .u8 x] 5)) w.heap.size 0 ⟨#[c]⟩ := by
  intro i hi
  have hz : (ByteArray.mk #[c]).size = 1 := rfl
  have : i = 0 := by omega
  subst this
  rw [World.cell?_alloc_at _ _ _ _ rfl, ← hx]; rfl

theorem conv_one (x : Int) (c : UInt8) (hx : (c.toNat : Int) = x) (w : World) :
    (convert 36 9 (.slice (some ⟨w.heap.size, 0, none⟩) 1 1)).run Try.prog (w.alloc (.cells #[.int .u8 x] 5)) = .ok (.string ⟨#[c]⟩) (w.alloc (.cells #[.int .u8 x] 5)) :=
  Lib.run_convert_whole (P := Try.prog) _ 36 5 9 Try.underlying36 Try.underlying5 Try.underlying9 w.heap.size 0 ⟨#[c]⟩ (one_byte w x c hx) 1

theorem mk_snoc (l : List UInt8) (d : UInt8) : (ByteArray.mk l.toArray ++ ByteArray.mk #[d]) = ByteArray.mk (l ++ [d]).toArray := Go.ByteArray.mk_append_mk l [d]
theorem take_snoc (s : ByteArray) (k : Nat) (h : k < s.size) : s.data.toList.take (k + 1) = s.data.toList.take k ++ [s[k]] := by
  rw [List.take_succ_eq_append_getElem (by simpa using h)]; rfl
theorem val_str {a b : ByteArray} (h : a = b) : Value.string a = Value.string b := by rw [h]

theorem shown_step (s : ByteArray) (how k : Nat) (h : k < s.size) (d : UInt8) (hd : d = shB s[k] (how + k)) :
    (ByteArray.mk (shownL how 0 (s.data.toList.take k)).toArray ++ ByteArray.mk #[d]) = ByteArray.mk (shownL how 0 (s.data.toList.take (k + 1))).toArray := by
  have hl : (s.data.toList.take k).length = k := by simp; omega
  rw [mk_snoc, take_snoc s k h, shownL_append, hl, hd]
  simp [shownL]

set_option maxHeartbeats 400000 in
set_option maxRecDepth 100000 in
theorem shown_any (s : ByteArray) (how : Nat) (w : World) (hl : s.size ≤ 100) (hh : how ≤ 1099511627776) :
    Calls Try.prog 14 #[.string s, .int .i64 how] w fun e w' => e = .returned (.string ⟨(shownL how 0 s.data.toList).toArray⟩) ∧ Below w.heap.size w w' := by
  go_enter Try.func14, Try.ntmps14
  go_wp2_with fail
  go_loopw [5, 6] (fun o i wr => ∃ k : Nat, k ≤ s.size ∧ i = .int .i64 k ∧ o = .string ⟨(shownL how 0 (s.data.toList.take k)).toArray⟩ ∧ Below w.heap.size w wr) (fun _ i _ => s.size - (intOf i).toNat)
  case atStart => exact ⟨0, Nat.zero_le _, rfl, rfl, Below.refl _ _⟩
  case round =>
    obtain ⟨k, h1, rfl, rfl, hb⟩ := hrel
    have hsz : (shownL how 0 (List.take k s.data.toList)).length ≤ 100 := by rw [len_shown]; simp; omega
    have hbz := hb.size
    by_cases hlt : k < s.size
    · obtain ⟨d, hd⟩ : ∃ d, d = shB s[k] (how + k) := ⟨_, rfl⟩
      have HS := hide (shown_step s how k hlt d hd)
      by_cases h2 : (97 : Int) ≤ (s[k].toNat : Int)
      · by_cases h3 : (s[k].toNat : Int) ≤ 122
        · by_cases h4 : (how + k) % 3 = 0
          · have h5 : (((how : Int) + (k : Int)) % 3 == 0) = true := by rw [beq_iff_eq]; omega
            have hdx : (d.toNat : Int) = (s[k].toNat : Int) - 97 + 65 := by
              rw [hd]; unfold shB; rw [if_pos (by omega), UInt8.toNat_ofNat']; omega
            have hcv := conv_one _ d hdx
            clear hd hdx h4
            go_wp2_with fail
            go_roundw
            case rel => exact ⟨k + 1, by omega, by go_num, val_str HS.out, hb.alloc hbz _⟩
            case measure => simp [intOf]; omega
          · have h5 : (((how : Int) + (k : Int)) % 3 == 0) = false := by rw [beq_eq_false_iff_ne]; omega
            have hdx : (d.toNat : Int) = (s[k].toNat : Int) := by
              rw [hd]; unfold shB; rw [if_neg (by omega)]
            have hcv := conv_one _ d hdx
            clear hd hdx h4
            go_wp2_with fail
            go_roundw
            case rel => exact ⟨k + 1, by omega, by go_num, val_str HS.out, hb.alloc hbz _⟩
            case measure => simp [intOf]; omega
        · have hdx : (d.toNat : Int) = (s[k].toNat : Int) := by
            rw [hd]; unfold shB; rw [if_neg (by omega)]
          have hcv := conv_one _ d hdx
          clear hd hdx
          go_wp2_with fail
          go_roundw
          case rel => exact ⟨k + 1, by omega, by go_num, val_str HS.out, hb.alloc hbz _⟩
          case measure => simp [intOf]; omega
      · have hdx : (d.toNat : Int) = (s[k].toNat : Int) := by
          rw [hd]; unfold shB; rw [if_neg (by omega)]
        have hcv := conv_one _ d hdx
        clear hd hdx
        go_wp2_with fail
        go_roundw
        case rel => exact ⟨k + 1, by omega, by go_num, val_str HS.out, hb.alloc hbz _⟩
        case measure => simp [intOf]; omega
    · have hfin : Hid (s.data.toList.take k = s.data.toList) := List.take_of_length_le (by simp; omega)
      go_wp2_with fail
      go_ret
      exact ⟨ret_str (by rw [hfin.out]), hb⟩
end Go.Proofs.Ytpdoacfiiledcaa
