import Derived.Test.YtbkepgmgebmceaaGreatDoorU00
import Derived.Test.YtbkepgmgebmceaaGreatDoorProg
import Derived.WalkKit
import Derived.WalkSpells
import Derived.WalkLawsBesides
import Derived.BigQuiet
import Derived.Deep.QuietTactic
import Derived.Lib.SlBytesRow
import Derived.Lib.ConvBytes

namespace Go.Proofs.YtbkepgmgebmceaaGreatDoor.Spl
open Go.RowKit Go.Proofs.YtbkepgmgebmceaaGreatDoor Go.Proofs.YtbkepgmgebmceaaGreatDoor.SiftM

theorem hide {p : Prop} (h : p) : Hid p := h
theorem ret_int {k : IntKind} {a b : Int} (h : a = b) : Ending.returned (.int k a) = .returned (.int k b) := by rw [h]
theorem ret_bool {a b : Bool} (h : a = b) : Ending.returned (.bool a) = .returned (.bool b) := by rw [h]
theorem ret_str {a b : ByteArray} (h : a = b) : Ending.returned (.string a) = .returned (.string b) := by rw [h]

set_option maxHeartbeats 400000 in
theorem lowered_any (c : UInt8) (w : World) :
    Calls Tryz.prog 303 #[.int .u8 c.toNat] w fun e w' => e = .returned (.int .u8 (low c).toNat) ∧ w' = w := by
  have hc : (c.toNat : Int) ≤ 255 := by have := c.toNat_lt; omega
  by_cases h1 : (65 : Int) ≤ (c.toNat : Int)
  · by_cases h2 : (c.toNat : Int) ≤ 90
    · have e : Hid ((low c).toNat = c.toNat + 32) := by
        show (low c).toNat = c.toNat + 32
        unfold low; rw [if_pos (by omega)]; rw [UInt8.toNat_ofNat']; omega
      go_enter Tryz.func303, Tryz.ntmps303
      go_wp2
      go_ret
      exact ⟨ret_int (by rw [e.out]; omega), rfl⟩
    · have e : Hid (low c = c) := by show low c = c; unfold low; rw [if_neg (by omega)]
      go_enter Tryz.func303, Tryz.ntmps303
      go_wp2
      go_ret
      exact ⟨ret_int (by rw [e.out]), rfl⟩
  · have e : Hid (low c = c) := by show low c = c; unfold low; rw [if_neg (by omega)]
    go_enter Tryz.func303, Tryz.ntmps303
    go_wp2
    go_ret
    exact ⟨ret_int (by rw [e.out]), rfl⟩

theorem isSm_int (c : UInt8) : isSm c = (decide ((97 : Int) ≤ c.toNat) && decide ((c.toNat : Int) ≤ 122) || decide ((48 : Int) ≤ c.toNat) && decide ((c.toNat : Int) ≤ 57)) := by
  rw [Bool.eq_iff_iff]; simp [isSm]; omega

set_option maxHeartbeats 400000 in
theorem small_any (c : UInt8) (w : World) :
    Calls Tryz.prog 302 #[.int .u8 c.toNat] w fun e w' => e = .returned (.bool (isSm c)) ∧ w' = w := by
  have hs := hide (isSm_int c)
  by_cases h1 : (97 : Int) ≤ (c.toNat : Int)
  · by_cases h2 : (c.toNat : Int) ≤ 122
    · go_enter Tryz.func302, Tryz.ntmps302
      go_wp2
      go_ret
      exact ⟨ret_bool (by rw [hs.out]; simp [h1, h2]), rfl⟩
    · have h3 : (48 : Int) ≤ (c.toNat : Int) := by omega
      have h4 : ¬ (c.toNat : Int) ≤ 57 := by omega
      go_enter Tryz.func302, Tryz.ntmps302
      go_wp2
      go_ret
      exact ⟨ret_bool (by rw [hs.out]; simp; omega), rfl⟩
  · by_cases h3 : (48 : Int) ≤ (c.toNat : Int)
    · by_cases h4 : (c.toNat : Int) ≤ 57
      · go_enter Tryz.func302, Tryz.ntmps302
        go_wp2
        go_ret
        exact ⟨ret_bool (by rw [hs.out]; simp; omega), rfl⟩
      · go_enter Tryz.func302, Tryz.ntmps302
        go_wp2
        go_ret
        exact ⟨ret_bool (by rw [hs.out]; simp; omega), rfl⟩
    · go_enter Tryz.func302, Tryz.ntmps302
      go_wp2
      go_ret
      exact ⟨ret_bool (by rw [hs.out]; simp; omega), rfl⟩

/-- The end of the run of letters and digits that begins at k. -/
def runE (s : ByteArray) (k : Nat) : Nat := k + ((s.data.toList.drop k).takeWhile isW).length

theorem runE_hit (s : ByteArray) (m : Nat) (h : m < s.size) (hw : isSm (low s[m]) = true) : runE s m = runE s (m + 1) := by
  unfold runE
  have hl : m < s.data.toList.length := by simpa using h
  rw [List.drop_eq_getElem_cons hl, List.takeWhile_cons]
  have e : s.data.toList[m] = s[m] := rfl
  have hw' : isW s.data.toList[m] = true := by rw [e]; exact hw
  rw [if_pos hw']
  simp; omega
theorem runE_miss (s : ByteArray) (m : Nat) (h : m < s.size) (hw : isSm (low s[m]) = false) : runE s m = m := by
  unfold runE
  have hl : m < s.data.toList.length := by simpa using h
  rw [List.drop_eq_getElem_cons hl, List.takeWhile_cons]
  have e : s.data.toList[m] = s[m] := rfl
  have hw' : isW s.data.toList[m] = false := by rw [e]; exact hw
  rw [if_neg (by rw [hw']; simp)]; rfl
theorem runE_end (s : ByteArray) (m : Nat) (h : ¬ m < s.size) : runE s m = m := by
  unfold runE
  have hl : s.data.toList.length ≤ m := by simpa using h
  rw [List.drop_of_length_le hl]; rfl

set_option maxHeartbeats 400000 in
theorem runEnd_any (s : ByteArray) (k : Nat) (w : World) (hs : s.size ≤ 1000000) (hk : k ≤ s.size) :
    Calls Tryz.prog 229 #[.string s, .int .i64 k] w fun e w' => e = .returned (.int .i64 (runE s k)) ∧ w' = w := by
  go_enter Tryz.func229, Tryz.ntmps229
  go_wp2_with fail
  go_loop [1] (fun i => ∃ m : Nat, k ≤ m ∧ m ≤ s.size ∧ i = .int .i64 m ∧ runE s k = runE s m) (fun i => s.size - (intOf i).toNat)
  case atStart => exact ⟨k, Nat.le_refl _, hk, rfl, rfl⟩
  case round =>
    obtain ⟨m, h1, h2, rfl, hr⟩ := hrel
    replace hr := hide hr
    by_cases hlt : m < s.size
    · have HH := hide (runE_hit s m hlt)
      have HM := hide (runE_miss s m hlt)
      go_wp2_with fail
      refine (lowered_any _ _).mono ?_
      rintro e w' ⟨rfl, rfl⟩
      go_wp2_with fail
      refine (small_any _ _).mono ?_
      rintro e w' ⟨rfl, rfl⟩
      cases hw : isSm (low s[m])
      · go_wp2_with fail
        go_ret
        exact ⟨ret_int (by rw [hr.out, HM.out hw]), rfl⟩
      · go_wp2_with fail
        go_round
        case rel => exact ⟨m + 1, by omega, by omega, by go_num, by rw [hr.out, HH.out hw]⟩
        case measure => simp [intOf]; omega
    · have HM := hide (runE_end s m hlt)
      go_wp2_with fail
      go_ret
      exact ⟨ret_int (by rw [hr.out, HM.out]), rfl⟩
end Go.Proofs.YtbkepgmgebmceaaGreatDoor.Spl

namespace Go.Proofs.YtbkepgmgebmceaaGreatDoor.Spl
open Go.RowKit Go.Proofs.YtbkepgmgebmceaaGreatDoor Go.Proofs.YtbkepgmgebmceaaGreatDoor.SiftM

theorem one_byte (w : World) (x : Int) (c : UInt8) (hx : (c.toNat : Int) = x) : Lib.Bytes (w.alloc (.cells #[.int .u8 x] 5)) w.heap.size 0 ⟨#[c]⟩ := by
  intro i hi
  have hz : (ByteArray.mk #[c]).size = 1 := rfl
  have : i = 0 := by omega
  subst this
  rw [World.cell?_alloc_at _ _ _ _ rfl, ← hx]; rfl

theorem conv_one (x : Int) (c : UInt8) (hx : (c.toNat : Int) = x) (w : World) :
    (convert 109 9 (.slice (some ⟨w.heap.size, 0, none⟩) 1 1)).run Tryz.prog (w.alloc (.cells #[.int .u8 x] 5)) = .ok (.string ⟨#[c]⟩) (w.alloc (.cells #[.int .u8 x] 5)) :=
  Lib.run_convert_whole (P := Tryz.prog) _ 109 5 9 Tryz.underlying109 Tryz.underlying5 Tryz.underlying9 w.heap.size 0 ⟨#[c]⟩ (one_byte w x c hx) 1

theorem mk_snoc (l : List UInt8) (d : UInt8) : (ByteArray.mk l.toArray ++ ByteArray.mk #[d]) = ByteArray.mk (l ++ [d]).toArray := Go.ByteArray.mk_append_mk l [d]
theorem take_snoc (s : ByteArray) (k : Nat) (h : k < s.size) : s.data.toList.take (k + 1) = s.data.toList.take k ++ [s[k]] := by
  rw [List.take_succ_eq_append_getElem (by simpa using h)]; rfl
theorem val_str {a b : ByteArray} (h : a = b) : Value.string a = Value.string b := by rw [h]

end Go.Proofs.YtbkepgmgebmceaaGreatDoor.Spl

namespace Go.Proofs.YtbkepgmgebmceaaGreatDoor.Spl
open Go.RowKit Go.Proofs.YtbkepgmgebmceaaGreatDoor Go.Proofs.YtbkepgmgebmceaaGreatDoor.SiftM

theorem bw_below (w : World) (e : TypeId) (s : ByteArray) : Below w.heap.size w (Lib.bytesWorld w e s) :=
  ⟨rfl, rfl, rfl, by rw [Lib.bytesWorld_size]; omega, fun k hk => Lib.bytesWorld_at_old w e s k hk⟩
theorem bw_frozen (w : World) (e : TypeId) (s : ByteArray) (j : Nat) (hj : j < s.size) : (Lib.bytesWorld w e s).frozen? ⟨w.heap.size, j, none⟩ = false := by
  have hz : s.size ≤ (Lib.bytesCells w e s).size := by simp [Lib.bytesCells]
  simp [World.frozen?, Lib.bytesWorld_at_new]; omega
theorem bw_cell (w : World) (e : TypeId) (s : ByteArray) (j : Nat) (hj : j < s.size) : (Lib.bytesWorld w e s).cell? ⟨w.heap.size, j, none⟩ = some (.int .u8 (s[j].toNat : Int)) := by
  rw [Lib.bytesWorld_cell w e s j hj]
  have hl : j < s.data.toList.length := by simpa using hj
  have e1 : s.data.toList.getD j 0 = s[j] := by rw [List.getD_eq_getElem?_getD, List.getElem?_eq_getElem hl]; rfl
  rw [e1]

theorem conv_bytes (t : ByteArray) (w : World) : (convert 9 109 (.string t)).run Tryz.prog w = .ok (.slice (some ⟨w.heap.size, 0, none⟩) t.size (grownCap w t.size 0 5)) (Lib.bytesWorld w 5 t) :=
  Lib.run_convert_string_bytes (P := Tryz.prog) w 9 109 5 t Tryz.underlying9 Tryz.underlying109 Tryz.underlying5

/-- What stands in the row behind k rounds. -/
def lowAt (t : ByteArray) (k j : Nat) (h : j < t.size) : Int := if j < k then ((low t[j]).toNat : Int) else (t[j].toNat : Int)

theorem low_bytes (t : ByteArray) (w : World) (B : Nat) (h : ∀ j (hj : j < t.size), w.cell? ⟨B, j, none⟩ = some (.int .u8 (lowAt t t.size j hj))) :
    Lib.Bytes w B 0 ⟨(t.data.toList.map low).toArray⟩ := by
  intro i hi
  have hz : (ByteArray.mk (t.data.toList.map low).toArray).size = t.size := by show (t.data.toList.map low).toArray.size = _; simp
  have hi' : i < t.size := by omega
  rw [Nat.zero_add, h i hi']
  unfold lowAt; rw [if_pos hi']
  have e5 : getElem (ByteArray.mk (t.data.toList.map low).toArray) i hi = low t[i] := by
    show getElem (t.data.toList.map low).toArray i _ = _
    simp; rfl
  rw [e5]

theorem conv_low (t : ByteArray) (w : World) (B cap : Nat) (h : ∀ j (hj : j < t.size), w.cell? ⟨B, j, none⟩ = some (.int .u8 (lowAt t t.size j hj))) :
    (convert 109 9 (.slice (some ⟨B, 0, none⟩) t.size cap)).run Tryz.prog w = .ok (.string ⟨(t.data.toList.map low).toArray⟩) w := by
  have hz : (ByteArray.mk (t.data.toList.map low).toArray).size = t.size := by show (t.data.toList.map low).toArray.size = _; simp
  have := Lib.run_convert_whole (P := Tryz.prog) w 109 5 9 Tryz.underlying109 Tryz.underlying5 Tryz.underlying9 B 0 ⟨(t.data.toList.map low).toArray⟩ (low_bytes t w B h) cap
  rw [hz] at this
  exact this

/-- The row's rounds: what is read and what a store leaves. -/
theorem low_read (t : ByteArray) (w : World) (B k : Nat) (hk : k < t.size) (h : ∀ j (hj : j < t.size), w.cell? ⟨B, j, none⟩ = some (.int .u8 (lowAt t k j hj))) :
    w.cell? ⟨B, k, none⟩ = some (.int .u8 (t[k].toNat : Int)) := by
  rw [h k hk]; unfold lowAt; rw [if_neg (by omega)]
theorem low_store (t : ByteArray) (w : World) (B k : Nat) (hk : k < t.size) (h : ∀ j (hj : j < t.size), w.cell? ⟨B, j, none⟩ = some (.int .u8 (lowAt t k j hj))) :
    ∀ j (hj : j < t.size), (w.setCell ⟨B, k, none⟩ (.int .u8 ((low t[k]).toNat : Int))).cell? ⟨B, j, none⟩ = some (.int .u8 (lowAt t (k + 1) j hj)) := by
  intro j hj
  by_cases e : k = j
  · subst e
    rw [World.cell?_setCell_same _ _ _ (h k hk)]
    unfold lowAt; rw [if_pos (by omega)]
  · rw [World.cell?_setCell_other _ _ _ _ (fun hh => e (congrArg Addr.off hh)), h j hj]
    unfold lowAt
    by_cases e2 : j < k
    · rw [if_pos e2, if_pos (by omega)]
    · rw [if_neg e2, if_neg (by omega)]
theorem wordL_take (s t : ByteArray) (n : Nat) (h : s.extract 0 n = t) (hn : n = min s.size 8) : t.data.toList.map low = wordL s.data.toList := by
  subst h
  rw [Lib.extract_data, hn]
  unfold wordL
  simp only [List.drop_zero, Nat.sub_zero]
  by_cases h8 : s.size ≤ 8
  · rw [Nat.min_eq_left h8, List.take_of_length_le (by simp), List.take_of_length_le (by simpa using h8)]
  · rw [Nat.min_eq_right (by omega)]

set_option maxHeartbeats 400000 in
set_option maxRecDepth 100000 in
theorem wordOf_any (s : ByteArray) (w : World) (hl : s.size ≤ 1000) :
    Calls Tryz.prog 230 #[.string s] w fun e w' => e = .returned (.string ⟨(wordL s.data.toList).toArray⟩) ∧ Below w.heap.size w w' := by
  have hcv := conv_bytes
  obtain ⟨t, ht⟩ : ∃ t, s.extract 0 (min s.size 8) = t := ⟨_, rfl⟩
  have htz : t.size = min s.size 8 := by rw [← ht]; simp
  have hfin : Hid (t.data.toList.map low = wordL s.data.toList) := wordL_take s t _ ht rfl
  rw [← htz] at ht
  have hm : min (s.size : Int) 8 = (t.size : Int) := by omega
  have h1 : t.size ≤ s.size := by omega
  have h2 : t.size ≤ 8 := by omega
  clear htz
  go_enter Tryz.func230, Tryz.ntmps230
  go_wp2_with fail
  clear hcv ht hm
  obtain ⟨W, hW⟩ : ∃ W, Lib.bytesWorld w 5 t = W := ⟨_, rfl⟩
  have c0 : ∀ j (hj : j < t.size), W.cell? ⟨w.heap.size, j, none⟩ = some (.int .u8 (lowAt t 0 j hj)) := fun j hj => by rw [← hW, bw_cell w 5 t j hj]; rfl
  have f0 : ∀ j, j < t.size → W.frozen? ⟨w.heap.size, j, none⟩ = false := fun j hj => by rw [← hW]; exact bw_frozen w 5 t j hj
  have b0 : Below w.heap.size w W := by rw [← hW]; exact bw_below w 5 t
  rw [hW]
  clear hW
  go_loopw [14] (fun i wr => ∃ k : Nat, k ≤ t.size ∧ i = .int .i64 k ∧ (∀ j (hj : j < t.size), wr.cell? ⟨w.heap.size, j, none⟩ = some (.int .u8 (lowAt t k j hj))) ∧ (∀ j, j < t.size → wr.frozen? ⟨w.heap.size, j, none⟩ = false) ∧ Below w.heap.size w wr) (fun i _ => t.size - (intOf i).toNat)
  case atStart => exact ⟨0, Nat.zero_le _, rfl, c0, f0, b0⟩
  case round =>
    clear c0 f0 b0
    obtain ⟨k, hk, rfl, hc, hf, hb⟩ := hrel
    by_cases hlt : k < t.size
    · have hr := low_read t wr _ k hlt hc
      have hfz := hf k hlt
      have HC := hide (low_store t wr _ k hlt hc)
      replace hf := hide hf
      replace hc := hide hc
      go_wp2_with fail
      refine (lowered_any _ _).mono ?_
      rintro e w' ⟨rfl, rfl⟩
      go_wp2_with fail
      go_roundw
      case rel => exact ⟨k + 1, by omega, by go_num, HC.out, fun j hj => by simpa using hf.out j hj, hb.setCell (Nat.le_refl _) _⟩
      case measure => simp [intOf]; omega
    · have e : k = t.size := by omega
      subst e
      have hcv : ∀ cap, (convert 109 9 (.slice (some ⟨w.heap.size, 0, none⟩) t.size cap)).run Tryz.prog wr = .ok (.string ⟨(t.data.toList.map low).toArray⟩) wr := fun cap => conv_low t wr w.heap.size cap hc
      clear hc hf
      go_wp2_with fail
      go_ret
      exact ⟨ret_str (by rw [hfin.out]), hb⟩
end Go.Proofs.YtbkepgmgebmceaaGreatDoor.Spl
