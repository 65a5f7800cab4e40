import Derived.Test.YtnffagpdnklnkaaGreatDoorProg
import Derived.WalkKit
import Derived.WalkSpells
import Derived.WalkLawsBesides
import Derived.BigQuiet
import Derived.Deep.QuietTactic
import Derived.Lib.SlBytesRow
import Derived.Lib.ConvBytes
set_option linter.unusedVariables false
set_option linter.unusedSimpArgs false
set_option maxRecDepth 8000
namespace Go.Proofs.YtnffagpdnklnkaaGreatDoor.SiftM
def isSm (c : UInt8) : Bool := (decide (97 ≤ c.toNat) && decide (c.toNat ≤ 122)) || (decide (48 ≤ c.toNat) && decide (c.toNat ≤ 57))
def low (c : UInt8) : UInt8 := if 65 ≤ c.toNat ∧ c.toNat ≤ 90 then UInt8.ofNat (c.toNat + 32) else c
def isW (c : UInt8) : Bool := isSm (low c)
def wordL (r : List UInt8) : List UInt8 := (r.take 8).map low

/-- The words of what is left, with fuel. -/
def sp : Nat → List UInt8 → List (List UInt8)
  | 0, _ => []
  | f + 1, l => if l.length = 0 then [] else
      (if (l.takeWhile isW).length = 0 then [] else [wordL (l.takeWhile isW)]) ++ sp f (l.drop ((l.takeWhile isW).length + 1))

theorem sp_nil (f : Nat) : sp f [] = [] := by
  cases f <;> simp [sp]

theorem sp_fuel : ∀ (f g : Nat) (l : List UInt8), l.length ≤ f → l.length ≤ g → sp f l = sp g l
  | 0, g, l, hf, _ => by
    have : l = [] := List.length_eq_zero_iff.1 (by omega)
    subst this; rw [sp_nil, sp_nil]
  | f + 1, 0, l, _, hg => by
    have : l = [] := List.length_eq_zero_iff.1 (by omega)
    subst this; rw [sp_nil, sp_nil]
  | f + 1, g + 1, l, hf, hg => by
    unfold sp
    by_cases h : l.length = 0
    · rw [if_pos h, if_pos h]
    · rw [if_neg h, if_neg h]
      have hl : (l.drop ((l.takeWhile isW).length + 1)).length ≤ l.length - 1 := by simp; omega
      rw [sp_fuel f g _ (by omega) (by omega)]

def ext (len n : Nat) (s r : List UInt8) : Bool := decide (n / 10 / 18 % 9 = 8) && decide (len + s.length + r.length < 60)
end Go.Proofs.YtnffagpdnklnkaaGreatDoor.SiftM
namespace Go.Proofs.YtnffagpdnklnkaaGreatDoor.Spl
open Go.RowKit Go.Proofs.YtnffagpdnklnkaaGreatDoor Go.Proofs.YtnffagpdnklnkaaGreatDoor.SiftM
theorem hide {p : Prop} (h : p) : Hid p := h
theorem ret_int {k : IntKind} {a b : Int} (h : a = b) : Ending.returned (.int k a) = .returned (.int k b) := by rw [h]
theorem ret_bool {a b : Bool} (h : a = b) : Ending.returned (.bool a) = .returned (.bool b) := by rw [h]
theorem ret_str {a b : ByteArray} (h : a = b) : Ending.returned (.string a) = .returned (.string b) := by rw [h]

set_option maxHeartbeats 400000 in
theorem lowered_any (c : UInt8) (w : World) :
    Calls Tryz.prog 204 #[.int .u8 c.toNat] w fun e w' => e = .returned (.int .u8 (low c).toNat) ∧ w' = w := by
  have hc : (c.toNat : Int) ≤ 255 := by have := c.toNat_lt; omega
  by_cases h1 : (65 : Int) ≤ (c.toNat : Int)
  · by_cases h2 : (c.toNat : Int) ≤ 90
    · have e : Hid ((low c).toNat = c.toNat + 32) := by
        show (low c).toNat = c.toNat + 32
        unfold low; rw [if_pos (by omega)]; rw [UInt8.toNat_ofNat']; omega
      go_enter Tryz.func204, Tryz.ntmps204
      go_wp2
      go_ret
      exact ⟨ret_int (by rw [e.out]; omega), rfl⟩
    · have e : Hid (low c = c) := by show low c = c; unfold low; rw [if_neg (by omega)]
      go_enter Tryz.func204, Tryz.ntmps204
      go_wp2
      go_ret
      exact ⟨ret_int (by rw [e.out]), rfl⟩
  · have e : Hid (low c = c) := by show low c = c; unfold low; rw [if_neg (by omega)]
    go_enter Tryz.func204, Tryz.ntmps204
    go_wp2
    go_ret
    exact ⟨ret_int (by rw [e.out]), rfl⟩

theorem isSm_int (c : UInt8) : isSm c = (decide ((97 : Int) ≤ c.toNat) && decide ((c.toNat : Int) ≤ 122) || decide ((48 : Int) ≤ c.toNat) && decide ((c.toNat : Int) ≤ 57)) := by
  rw [Bool.eq_iff_iff]; simp [isSm]; omega

set_option maxHeartbeats 400000 in
theorem small_any (c : UInt8) (w : World) :
    Calls Tryz.prog 182 #[.int .u8 c.toNat] w fun e w' => e = .returned (.bool (isSm c)) ∧ w' = w := by
  have hs := hide (isSm_int c)
  by_cases h1 : (97 : Int) ≤ (c.toNat : Int)
  · by_cases h2 : (c.toNat : Int) ≤ 122
    · go_enter Tryz.func182, Tryz.ntmps182
      go_wp2
      go_ret
      exact ⟨ret_bool (by rw [hs.out]; simp [h1, h2]), rfl⟩
    · have h3 : (48 : Int) ≤ (c.toNat : Int) := by omega
      have h4 : ¬ (c.toNat : Int) ≤ 57 := by omega
      go_enter Tryz.func182, Tryz.ntmps182
      go_wp2
      go_ret
      exact ⟨ret_bool (by rw [hs.out]; simp; omega), rfl⟩
  · by_cases h3 : (48 : Int) ≤ (c.toNat : Int)
    · by_cases h4 : (c.toNat : Int) ≤ 57
      · go_enter Tryz.func182, Tryz.ntmps182
        go_wp2
        go_ret
        exact ⟨ret_bool (by rw [hs.out]; simp; omega), rfl⟩
      · go_enter Tryz.func182, Tryz.ntmps182
        go_wp2
        go_ret
        exact ⟨ret_bool (by rw [hs.out]; simp; omega), rfl⟩
    · go_enter Tryz.func182, Tryz.ntmps182
      go_wp2
      go_ret
      exact ⟨ret_bool (by rw [hs.out]; simp; omega), rfl⟩

/-- The end of the run of letters and digits that begins at k. -/
def runE (s : ByteArray) (k : Nat) : Nat := k + ((s.data.toList.drop k).takeWhile isW).length

theorem runE_hit (s : ByteArray) (m : Nat) (h : m < s.size) (hw : isSm (low s[m]) = true) : runE s m = runE s (m + 1) := by
  unfold runE
  have hl : m < s.data.toList.length := by simpa using h
  rw [List.drop_eq_getElem_cons hl, List.takeWhile_cons]
  have e : s.data.toList[m] = s[m] := rfl
  have hw' : isW s.data.toList[m] = true := by rw [e]; exact hw
  rw [if_pos hw']
  simp; omega
theorem runE_miss (s : ByteArray) (m : Nat) (h : m < s.size) (hw : isSm (low s[m]) = false) : runE s m = m := by
  unfold runE
  have hl : m < s.data.toList.length := by simpa using h
  rw [List.drop_eq_getElem_cons hl, List.takeWhile_cons]
  have e : s.data.toList[m] = s[m] := rfl
  have hw' : isW s.data.toList[m] = false := by rw [e]; exact hw
  rw [if_neg (by rw [hw']; simp)]; rfl
theorem runE_end (s : ByteArray) (m : Nat) (h : ¬ m < s.size) : runE s m = m := by
  unfold runE
  have hl : s.data.toList.length ≤ m := by simpa using h
  rw [List.drop_of_length_le hl]; rfl

set_option maxHeartbeats 400000 in
theorem runEnd_any (s : ByteArray) (k : Nat) (w : World) (hs : s.size ≤ 1000000) (hk : k ≤ s.size) :
    Calls Tryz.prog 183 #[.string s, .int .i64 k] w fun e w' => e = .returned (.int .i64 (runE s k)) ∧ w' = w := by
  go_enter Tryz.func183, Tryz.ntmps183
  go_wp2_with fail
  go_loop [1] (fun i => ∃ m : Nat, k ≤ m ∧ m ≤ s.size ∧ i = .int .i64 m ∧ runE s k = runE s m) (fun i => s.size - (intOf i).toNat)
  case atStart => exact ⟨k, Nat.le_refl _, hk, rfl, rfl⟩
  case round =>
    obtain ⟨m, h1, h2, rfl, hr⟩ := hrel
    replace hr := hide hr
    by_cases hlt : m < s.size
    · have HH := hide (runE_hit s m hlt)
      have HM := hide (runE_miss s m hlt)
      go_wp2_with fail
      refine (lowered_any _ _).mono ?_
      rintro e w' ⟨rfl, rfl⟩
      go_wp2_with fail
      refine (small_any _ _).mono ?_
      rintro e w' ⟨rfl, rfl⟩
      cases hw : isSm (low s[m])
      · go_wp2_with fail
        go_ret
        exact ⟨ret_int (by rw [hr.out, HM.out hw]), rfl⟩
      · go_wp2_with fail
        go_round
        case rel => exact ⟨m + 1, by omega, by omega, by go_num, by rw [hr.out, HH.out hw]⟩
        case measure => simp [intOf]; omega
    · have HM := hide (runE_end s m hlt)
      go_wp2_with fail
      go_ret
      exact ⟨ret_int (by rw [hr.out, HM.out]), rfl⟩
theorem take_snoc (s : ByteArray) (k : Nat) (h : k < s.size) : s.data.toList.take (k + 1) = s.data.toList.take k ++ [s[k]] := by
  rw [List.take_succ_eq_append_getElem (by simpa using h)]; rfl
theorem bw_below (w : World) (e : TypeId) (s : ByteArray) : Below w.heap.size w (Lib.bytesWorld w e s) :=
  ⟨rfl, rfl, rfl, by rw [Lib.bytesWorld_size]; omega, fun k hk => Lib.bytesWorld_at_old w e s k hk⟩
theorem bw_frozen (w : World) (e : TypeId) (s : ByteArray) (j : Nat) (hj : j < s.size) : (Lib.bytesWorld w e s).frozen? ⟨w.heap.size, j, none⟩ = false := by
  have hz : s.size ≤ (Lib.bytesCells w e s).size := by simp [Lib.bytesCells]
  simp [World.frozen?, Lib.bytesWorld_at_new]; omega
theorem bw_cell (w : World) (e : TypeId) (s : ByteArray) (j : Nat) (hj : j < s.size) : (Lib.bytesWorld w e s).cell? ⟨w.heap.size, j, none⟩ = some (.int .u8 (s[j].toNat : Int)) := by
  rw [Lib.bytesWorld_cell w e s j hj]
  have hl : j < s.data.toList.length := by simpa using hj
  have e1 : s.data.toList.getD j 0 = s[j] := by rw [List.getD_eq_getElem?_getD, List.getElem?_eq_getElem hl]; rfl
  rw [e1]

theorem conv_bytes (t : ByteArray) (w : World) : (convert 9 42 (.string t)).run Tryz.prog w = .ok (.slice (some ⟨w.heap.size, 0, none⟩) t.size (grownCap w t.size 0 5)) (Lib.bytesWorld w 5 t) :=
  Lib.run_convert_string_bytes (P := Tryz.prog) w 9 42 5 t Tryz.underlying9 Tryz.underlying42 Tryz.underlying5

/-- What stands in the row behind k rounds. -/
def lowAt (t : ByteArray) (k j : Nat) (h : j < t.size) : Int := if j < k then ((low t[j]).toNat : Int) else (t[j].toNat : Int)

theorem low_bytes (t : ByteArray) (w : World) (B : Nat) (h : ∀ j (hj : j < t.size), w.cell? ⟨B, j, none⟩ = some (.int .u8 (lowAt t t.size j hj))) :
    Lib.Bytes w B 0 ⟨(t.data.toList.map low).toArray⟩ := by
  intro i hi
  have hz : (ByteArray.mk (t.data.toList.map low).toArray).size = t.size := by show (t.data.toList.map low).toArray.size = _; simp
  have hi' : i < t.size := by omega
  rw [Nat.zero_add, h i hi']
  unfold lowAt; rw [if_pos hi']
  have e5 : getElem (ByteArray.mk (t.data.toList.map low).toArray) i hi = low t[i] := by
    show getElem (t.data.toList.map low).toArray i _ = _
    simp; rfl
  rw [e5]

theorem conv_low (t : ByteArray) (w : World) (B cap : Nat) (h : ∀ j (hj : j < t.size), w.cell? ⟨B, j, none⟩ = some (.int .u8 (lowAt t t.size j hj))) :
    (convert 42 9 (.slice (some ⟨B, 0, none⟩) t.size cap)).run Tryz.prog w = .ok (.string ⟨(t.data.toList.map low).toArray⟩) w := by
  have hz : (ByteArray.mk (t.data.toList.map low).toArray).size = t.size := by show (t.data.toList.map low).toArray.size = _; simp
  have := Lib.run_convert_whole (P := Tryz.prog) w 42 5 9 Tryz.underlying42 Tryz.underlying5 Tryz.underlying9 B 0 ⟨(t.data.toList.map low).toArray⟩ (low_bytes t w B h) cap
  rw [hz] at this
  exact this

/-- The row's rounds: what is read and what a store leaves. -/
theorem low_read (t : ByteArray) (w : World) (B k : Nat) (hk : k < t.size) (h : ∀ j (hj : j < t.size), w.cell? ⟨B, j, none⟩ = some (.int .u8 (lowAt t k j hj))) :
    w.cell? ⟨B, k, none⟩ = some (.int .u8 (t[k].toNat : Int)) := by
  rw [h k hk]; unfold lowAt; rw [if_neg (by omega)]
theorem low_store (t : ByteArray) (w : World) (B k : Nat) (hk : k < t.size) (h : ∀ j (hj : j < t.size), w.cell? ⟨B, j, none⟩ = some (.int .u8 (lowAt t k j hj))) :
    ∀ j (hj : j < t.size), (w.setCell ⟨B, k, none⟩ (.int .u8 ((low t[k]).toNat : Int))).cell? ⟨B, j, none⟩ = some (.int .u8 (lowAt t (k + 1) j hj)) := by
  intro j hj
  by_cases e : k = j
  · subst e
    rw [World.cell?_setCell_same _ _ _ (h k hk)]
    unfold lowAt; rw [if_pos (by omega)]
  · rw [World.cell?_setCell_other _ _ _ _ (fun hh => e (congrArg Addr.off hh)), h j hj]
    unfold lowAt
    by_cases e2 : j < k
    · rw [if_pos e2, if_pos (by omega)]
    · rw [if_neg e2, if_neg (by omega)]
theorem wordL_take (s t : ByteArray) (n : Nat) (h : s.extract 0 n = t) (hn : n = min s.size 8) : t.data.toList.map low = wordL s.data.toList := by
  subst h
  rw [Lib.extract_data, hn]
  unfold wordL
  simp only [List.drop_zero, Nat.sub_zero]
  by_cases h8 : s.size ≤ 8
  · rw [Nat.min_eq_left h8, List.take_of_length_le (by simp), List.take_of_length_le (by simpa using h8)]
  · rw [Nat.min_eq_right (by omega)]

set_option maxHeartbeats 400000 in
set_option maxRecDepth 100000 in
theorem wordOf_any (s : ByteArray) (w : World) (hl : s.size ≤ 1000) :
    Calls Tryz.prog 184 #[.string s] w fun e w' => e = .returned (.string ⟨(wordL s.data.toList).toArray⟩) ∧ Below w.heap.size w w' := by
  have hcv := conv_bytes
  obtain ⟨t, ht⟩ : ∃ t, s.extract 0 (min s.size 8) = t := ⟨_, rfl⟩
  have htz : t.size = min s.size 8 := by rw [← ht]; simp
  have hfin : Hid (t.data.toList.map low = wordL s.data.toList) := wordL_take s t _ ht rfl
  rw [← htz] at ht
  have hm : min (s.size : Int) 8 = (t.size : Int) := by omega
  have h1 : t.size ≤ s.size := by omega
  have h2 : t.size ≤ 8 := by omega
  clear htz
  go_enter Tryz.func184, Tryz.ntmps184
  go_wp2_with fail
  clear hcv ht hm
  obtain ⟨W, hW⟩ : ∃ W, Lib.bytesWorld w 5 t = W := ⟨_, rfl⟩
  have c0 : ∀ j (hj : j < t.size), W.cell? ⟨w.heap.size, j, none⟩ = some (.int .u8 (lowAt t 0 j hj)) := fun j hj => by rw [← hW, bw_cell w 5 t j hj]; rfl
  have f0 : ∀ j, j < t.size → W.frozen? ⟨w.heap.size, j, none⟩ = false := fun j hj => by rw [← hW]; exact bw_frozen w 5 t j hj
  have b0 : Below w.heap.size w W := by rw [← hW]; exact bw_below w 5 t
  rw [hW]
  clear hW
  go_loopw [14] (fun i wr => ∃ k : Nat, k ≤ t.size ∧ i = .int .i64 k ∧ (∀ j (hj : j < t.size), wr.cell? ⟨w.heap.size, j, none⟩ = some (.int .u8 (lowAt t k j hj))) ∧ (∀ j, j < t.size → wr.frozen? ⟨w.heap.size, j, none⟩ = false) ∧ Below w.heap.size w wr) (fun i _ => t.size - (intOf i).toNat)
  case atStart => exact ⟨0, Nat.zero_le _, rfl, c0, f0, b0⟩
  case round =>
    clear c0 f0 b0
    obtain ⟨k, hk, rfl, hc, hf, hb⟩ := hrel
    by_cases hlt : k < t.size
    · have hr := low_read t wr _ k hlt hc
      have hfz := hf k hlt
      have HC := hide (low_store t wr _ k hlt hc)
      replace hf := hide hf
      replace hc := hide hc
      go_wp2_with fail
      refine (lowered_any _ _).mono ?_
      rintro e w' ⟨rfl, rfl⟩
      go_wp2_with fail
      go_roundw
      case rel => exact ⟨k + 1, by omega, by go_num, HC.out, fun j hj => by simpa using hf.out j hj, hb.setCell (Nat.le_refl _) _⟩
      case measure => simp [intOf]; omega
    · have e : k = t.size := by omega
      subst e
      have hcv : ∀ cap, (convert 42 9 (.slice (some ⟨w.heap.size, 0, none⟩) t.size cap)).run Tryz.prog wr = .ok (.string ⟨(t.data.toList.map low).toArray⟩) wr := fun cap => conv_low t wr w.heap.size cap hc
      clear hc hf
      go_wp2_with fail
      go_ret
      exact ⟨ret_str (by rw [hfin.out]), hb⟩
theorem Tryz.info9 : (Tryz.prog.info? 9).map (fun i => (i.zero, i.size, i.bytes)) = some (some (.string ⟨#[]⟩), 1, 16) := by kernel_rfl

theorem grown_of_below {w w' : World} (h : Below w.heap.size w w') : w.grownBy w' none := ⟨h.os, h.tape, h.output, h.size, fun k hk _ => h.block k hk⟩
theorem owns_below {w w' : World} {base : Nat} {e : TypeId} {size : Nat} {v : Value} {n : Nat} {xs : List Value} (h : w.ownsRow base e size v n xs) (hb : Below w.heap.size w w') : w'.ownsRow base e size v n xs :=
  h.kept (grown_of_below hb) (Classical.em _)
/-- The values of a list of words. -/
def strV (l : List (List UInt8)) : List Value := l.map fun s => Value.string ⟨s.toArray⟩
theorem strV_snoc (l : List (List UInt8)) (x : List UInt8) : strV (l ++ [x]) = strV l ++ [Value.string ⟨x.toArray⟩] := by simp [strV]

theorem runE_run (s : ByteArray) (k : Nat) (hk : k ≤ s.size) : (s.extract k (runE s k)).data.toList = (s.data.toList.drop k).takeWhile isW := by
  rw [Lib.extract_data]
  unfold runE
  rw [show k + ((s.data.toList.drop k).takeWhile isW).length - k = ((s.data.toList.drop k).takeWhile isW).length by omega]
  exact (List.prefix_iff_eq_take.1 (List.takeWhile_prefix _)).symm
theorem runE_le (s : ByteArray) (k : Nat) (hk : k ≤ s.size) : k ≤ runE s k ∧ runE s k ≤ s.size := by
  unfold runE
  have h := (List.takeWhile_prefix (l := s.data.toList.drop k) isW).length_le
  have hl : s.data.toList.length = s.size := by simp
  rw [List.length_drop] at h
  omega
theorem sp_open (s : ByteArray) (k : Nat) (hk : k < s.size) : sp s.size (s.data.toList.drop k) =
    (if ((s.data.toList.drop k).takeWhile isW).length = 0 then [] else [wordL ((s.data.toList.drop k).takeWhile isW)]) ++ sp s.size (s.data.toList.drop (runE s k + 1)) := by
  have hl : s.data.toList.length = s.size := by simp
  obtain ⟨f, hf⟩ : ∃ f, s.size = f + 1 := ⟨s.size - 1, by omega⟩
  rw [hf]
  conv => lhs; unfold sp
  rw [if_neg (by rw [List.length_drop]; omega), List.drop_drop]
  rw [show k + (((s.data.toList.drop k).takeWhile isW).length + 1) = runE s k + 1 by unfold runE; omega]
  rw [sp_fuel f (f + 1) _ (by rw [List.length_drop]; omega) (by rw [List.length_drop]; omega)]
theorem sp_step_word (s : ByteArray) (k : Nat) (acc : List (List UInt8)) (hk : k < s.size) (he : k < runE s k)
    (h : acc ++ sp s.size (s.data.toList.drop k) = sp s.size s.data.toList) :
    (acc ++ [wordL (s.extract k (runE s k)).data.toList]) ++ sp s.size (s.data.toList.drop (runE s k + 1)) = sp s.size s.data.toList := by
  rw [← h, sp_open s k hk, runE_run s k (by omega), if_neg (by unfold runE at he; omega), List.append_assoc]
theorem sp_step_none (s : ByteArray) (k : Nat) (acc : List (List UInt8)) (hk : k < s.size) (he : ¬ k < runE s k)
    (h : acc ++ sp s.size (s.data.toList.drop k) = sp s.size s.data.toList) :
    acc ++ sp s.size (s.data.toList.drop (runE s k + 1)) = sp s.size s.data.toList := by
  rw [← h, sp_open s k hk, if_pos (by unfold runE at he; omega), List.nil_append]
theorem sp_done (s : ByteArray) (k : Nat) (acc : List (List UInt8)) (hk : ¬ k < s.size)
    (h : acc ++ sp s.size (s.data.toList.drop k) = sp s.size s.data.toList) : acc = sp s.size s.data.toList := by
  rw [← h, List.drop_of_length_le (by simp; omega), sp_nil, List.append_nil]

set_option maxHeartbeats 400000 in
set_option maxRecDepth 100000 in
theorem splitW_any (s : ByteArray) (w : World) (hs : s.size ≤ 1000) :
    Calls Tryz.prog 147 #[.string s] w fun e w' => ∃ v, e = .returned v ∧ w'.ownsRow w.heap.size 9 1 v (sp s.size s.data.toList).length (strV (sp s.size s.data.toList)) ∧ Below w.heap.size w w' := by
  obtain ⟨i0, hi, hz0, hz1, hz2⟩ := info_parts Tryz.info9
  go_enter Tryz.func147, Tryz.ntmps147
  go_wp2_with fail
  go_loopw [3, 4] (fun v i wr => ∃ k : Nat, ∃ acc : List (List UInt8), k ≤ s.size + 1 ∧ acc.length ≤ k ∧ i = .int .i64 k ∧ wr.ownsRow w.heap.size 9 1 v acc.length (strV acc) ∧ acc ++ sp s.size (s.data.toList.drop k) = sp s.size s.data.toList ∧ Below w.heap.size w wr) (fun _ i _ => s.size + 1 - (intOf i).toNat)
  case atStart => exact ⟨0, [], Nat.zero_le _, Nat.zero_le _, rfl, World.ownsRow_nil _ _ _ _, rfl, Below.refl _ _⟩
  case round =>
    obtain ⟨k, acc, h1, h2, rfl, hown, hsp, hb⟩ := hrel
    have hbz := hb.size
    by_cases hlt : k < s.size
    · have hr := runE_le s k (by omega)
      by_cases he : k < runE s k
      · have HS := hide (sp_step_word s k acc hlt he hsp)
        replace hsp := hide hsp
        go_wp2_with fail
        refine (runEnd_any _ _ _ (by omega) (by omega)).mono ?_
        rintro e w' ⟨rfl, rfl⟩
        go_wp2_with fail
        refine (wordOf_any _ _ (by simp; omega)).mono ?_
        rintro e w1 ⟨rfl, hb1⟩
        have hown1 := owns_below hown hb1
        have hbz1 := hb1.size
        go_wp2_with (first
          | (at_builtin; refine wpList_append_own _ rfl _ _ 37 rfl w.heap.size 9 i0 (.string ⟨#[]⟩) 1 16 Tryz.underlying37 hi hz0 hz1 hz2 rfl (by decide) _ _ _ rfl (hown1.alloc _) ⟨w1.heap.size, 0, none⟩ 1 1 [.string ⟨(wordL (s.extract k (runE s k)).data.toList).toArray⟩] rfl rfl ?c1 ?c2 ?c3 ?c4 ?c5 ?_)
          | fail)
        case c1 =>
          intro j u hj
          match j, hj with
          | 0, hj => simp at hj; subst hj; simp [Addr.add]
        case c2 => intro u hu; simp at hu; subst hu; rfl
        case c3 => unfold maxLen; omega
        case c4 => omega
        case c5 => simp; omega
        intro v' w2 hown2 hgrow _
        go_wp2_with fail
        go_roundw
        case rel => 
          refine ⟨runE s k + 1, acc ++ [wordL (s.extract k (runE s k)).data.toList], by omega, by simp; omega, by go_num, ?_, HS.out, ?_⟩
          · rw [strV_snoc]; simpa using hown2
          · exact ((hb.trans (hb1.mono hbz)).alloc (by omega) _).grown hgrow (by simp; omega) (fun k hk => (hown1.lt k hk).1)
        case measure => simp [intOf]; omega
      · have HS := hide (sp_step_none s k acc hlt he hsp)
        replace hsp := hide hsp
        go_wp2_with fail
        refine (runEnd_any _ _ _ (by omega) (by omega)).mono ?_
        rintro e w' ⟨rfl, rfl⟩
        go_wp2_with fail
        go_roundw
        case rel => exact ⟨runE s k + 1, acc, by omega, by omega, by go_num, hown, HS.out, hb⟩
        case measure => simp [intOf]; omega
    · have HS := hide (sp_done s k acc hlt hsp)
      replace hsp := hide hsp
      go_wp2_with fail
      go_ret
      exact ⟨_, rfl, by rw [← HS.out]; exact hown, hb⟩
set_option maxHeartbeats 400000 in
theorem words_ok (s : ByteArray) (w : World) (hs : s.size ≤ 120) :
    Calls Tryz.prog 108 #[.string s] w fun e w' => ∃ v, e = .returned (.tuple #[v, .int .i64 0]) ∧ w'.ownsRow w.heap.size 9 1 v (sp s.size s.data.toList).length (strV (sp s.size s.data.toList)) ∧ Below w.heap.size w w' := by
  go_enter Tryz.func108, Tryz.ntmps108
  go_wp2_with fail
  refine (splitW_any _ _ (by omega)).mono ?_
  rintro e w1 ⟨v, rfl, hown, hb⟩
  go_wp2_with fail
  go_ret2
  exact ⟨_, rfl, hown, hb⟩

set_option maxHeartbeats 400000 in
theorem words_long (s : ByteArray) (w : World) (hs : 120 < s.size) :
    Calls Tryz.prog 108 #[.string s] w fun e w' => e = .returned (.tuple #[.slice none 0 0, .int .i64 4]) ∧ w' = w := by
  go_enter Tryz.func108, Tryz.ntmps108
  go_wp2_with fail
  go_ret2
  exact ⟨rfl, rfl⟩

theorem owns_forms {w : World} {base size n : Nat} {e : TypeId} {v : Value} {xs : List Value} (h : w.ownsRow base e size v n xs) : ∃ a cap, v = .slice a n cap ∧ (0 < n → ∃ g, a = some ⟨g, 0, none⟩) := by
  rcases h.2 with ⟨rfl, rfl⟩ | ⟨g, cap, cur, rfl, _⟩
  · exact ⟨_, _, rfl, fun h => by omega⟩
  · exact ⟨_, _, rfl, fun _ => ⟨g, rfl⟩⟩
end Go.Proofs.YtnffagpdnklnkaaGreatDoor.Spl
namespace Go.Proofs.YtnffagpdnklnkaaGreatDoor.Pak
open Go.RowKit Go.Proofs.YtnffagpdnklnkaaGreatDoor Go.Proofs.YtnffagpdnklnkaaGreatDoor.Spl SiftM
/-- Of what was there in w nothing has turned but the blocks of S. -/
structure Kp (S : List Nat) (w w' : World) : Prop where
  os : w'.os = w.os
  tape : w'.tape = w.tape
  output : w'.output = w.output
  size : w.heap.size ≤ w'.heap.size
  block : ∀ k, k < w.heap.size → k ∉ S → w'.heap[k]? = w.heap[k]?

theorem Kp.refl (S : List Nat) (w : World) : Kp S w w := ⟨rfl, rfl, rfl, Nat.le_refl _, fun _ _ _ => rfl⟩
theorem Kp.trans {S S' : List Nat} {a b c : World} (h : Kp S a b) (k : Kp S' b c) (hS : ∀ x ∈ S', x ∈ S ∨ a.heap.size ≤ x) : Kp S a c :=
  ⟨k.os.trans h.os, k.tape.trans h.tape, k.output.trans h.output, Nat.le_trans h.size k.size, fun i hi hn =>
    (k.block i (Nat.lt_of_lt_of_le hi h.size) (fun hx => by rcases hS i hx with h' | h'; exact hn h'; omega)).trans (h.block i hi hn)⟩
theorem Kp.next {S : List Nat} {a b c : World} (h : Kp S a b) (k : Kp S b c) : Kp S a c := h.trans k fun _ hx => .inl hx
theorem Kp.mono {S S' : List Nat} {w w' : World} (h : Kp S w w') (hS : ∀ x ∈ S, x ∈ S') : Kp S' w w' :=
  ⟨h.os, h.tape, h.output, h.size, fun k hk hn => h.block k hk fun hx => hn (hS k hx)⟩
theorem Kp.of_below {w w' : World} (S : List Nat) (h : Below w.heap.size w w') : Kp S w w' := ⟨h.os, h.tape, h.output, h.size, fun k hk _ => h.block k hk⟩
theorem Kp.below {S : List Nat} {w w' : World} {B : Nat} (h : Kp S w w') (hB : B ≤ w.heap.size) (hS : ∀ x ∈ S, B ≤ x) : Below B w w' :=
  ⟨h.os, h.tape, h.output, h.size, fun k hk => h.block k (by omega) fun hx => by have := hS k hx; omega⟩
theorem Kp.alloc {S : List Nat} {a w : World} (h : Kp S a w) (o : Obj) : Kp S a (w.alloc o) :=
  h.next ⟨rfl, rfl, rfl, by simp, fun k hk _ => Below.heap_alloc _ _ _ hk⟩
theorem Kp.drewN {S : List Nat} {a w : World} (h : Kp S a w) (n : Nat) : Kp S a (w.drewN n) := ⟨h.os, h.tape, h.output, h.size, h.block⟩
theorem Kp.setCell {S : List Nat} {a w : World} (h : Kp S a w) {p : Addr} (hp : p.block ∈ S ∨ a.heap.size ≤ p.block) (u : Value) : Kp S a (w.setCell p u) :=
  h.trans (S' := [p.block]) ⟨rfl, rfl, rfl, by simp [World.setCell], fun k hk hn => Below.heap_setCell _ _ _ _ (by simpa using hn)⟩ (by simpa using hp)
theorem Kp.grown {S : List Nat} {a w w' : World} {row : Option Nat} (h : Kp S a w) (hg : w.grownBy w' row) (hr : ∀ k, row = some k → k ∈ S ∨ a.heap.size ≤ k) : Kp S a w' :=
  h.trans (S' := row.toList) ⟨hg.os, hg.tape, hg.output, hg.size, fun k hk hn => hg.block k hk (by intro e; apply hn; rw [← e]; simp)⟩ (by
    intro x hx
    cases row with
    | none => simp at hx
    | some y => simp at hx; subst hx; exact hr _ rfl)
theorem Kp.cell {S : List Nat} {w w' : World} (h : Kp S w w') {p : Addr} (hl : p.block < w.heap.size) (hp : p.block ∉ S) : w'.cell? p = w.cell? p := World.cell?_of_block (w := w) (h.block p.block hl hp)
theorem Kp.cellv {S : List Nat} {w w' : World} (h : Kp S w w') {p : Addr} {v : Value} (hv : w.cell? p = some v) (hp : p.block ∉ S) : w'.cell? p = some v := (h.cell (World.block_lt_of_cell? w p hv) hp).trans hv
theorem Kp.heap {S : List Nat} {w w' : World} (h : Kp S w w') {k : Nat} {o : Obj} (ho : w.heap[k]? = some o) (hp : k ∉ S) : w'.heap[k]? = some o :=
  (h.block k (Array.getElem?_eq_some_iff.1 ho).1 hp).trans ho
theorem Kp.owns {S : List Nat} {w w' : World} {base : Nat} {e : TypeId} {size : Nat} {v : Value} {n : Nat} {xs : List Value} (k : Kp S w w') (h : w.ownsRow base e size v n xs) (hne : ∀ g, v.ownBlock = some g → g ∉ S) : w'.ownsRow base e size v n xs := by
  refine ⟨h.1, ?_⟩
  rcases h.2 with hn | ⟨g, cap, cur, rfl, hb, hgg, rest⟩
  · exact .inl hn
  · exact .inr ⟨g, cap, cur, rfl, hb, k.heap hgg (hne g rfl), rest⟩
theorem heap_lt {w : World} {k : Nat} {o : Obj} (ho : w.heap[k]? = some o) : k < w.heap.size := (Array.getElem?_eq_some_iff.1 ho).1
/-- Blocks of different kinds are different blocks. -/
theorem owns_ne {w : World} {base R n size : Nat} {e t : TypeId} {v : Value} {xs : List Value} {fr : Nat × Nat} (h : w.ownsRow base e size v n xs) {cs : Array Value} (hR : w.heap[R]? = some (.cells cs t fr)) (ht : t ≠ e) : v.ownBlock ≠ some R := by
  intro ee
  rcases h.2 with ⟨rfl, _⟩ | ⟨g, cap, cur, rfl, _, hh, _⟩
  · simp [Value.ownBlock] at ee
  · simp [Value.ownBlock] at ee
    subst ee
    rw [hR] at hh
    simp at hh
    exact ht hh.2.1

/-- A view of bytes. -/
def Vw (w : World) (B : Nat) (a : Option Addr) (l : List UInt8) : Prop := (l = [] ∧ a = none) ∨ ∃ g off, a = some ⟨g, off, none⟩ ∧ g < B ∧ ∀ j (h : j < l.length), w.cell? ⟨g, off + j, none⟩ = some (.int .u8 (l[j].toNat : Int))
/-- The reader in block R: none: it has failed. -/
def Rd (w : World) (R B : Nat) : Option (List UInt8) → Prop
  | none => B ≤ R ∧ w.heap[R]? = some (.cells #[.slice none 0 0, .bool true] 164 (0, 0))
  | some l => B ≤ R ∧ ∃ a cap, w.heap[R]? = some (.cells #[.slice a l.length cap, .bool false] 164 (0, 0)) ∧ Vw w B a l ∧ l.length ≤ cap ∧ cap ≤ 9223372036854775807

def nextF : Option (List UInt8) → UInt8 × Option (List UInt8)
  | none => (0, none)
  | some [] => (0, none)
  | some (c :: r) => (c, some r)

theorem rd_cells {w : World} {R : Nat} {x y : Value} {t : TypeId} (h : w.heap[R]? = some (.cells #[x, y] t (0, 0))) :
    w.cell? ⟨R, 0, none⟩ = some x ∧ w.cell? ⟨R, 1, none⟩ = some y ∧ w.frozen? ⟨R, 0, none⟩ = false ∧ w.frozen? ⟨R, 1, none⟩ = false := by
  simp [World.cell?, World.frozen?, h]

set_option maxHeartbeats 400000 in
theorem fail_any (R B : Nat) (hB : B ≤ R) (x y : Value) (w : World) (h : w.heap[R]? = some (.cells #[x, y] 164 (0, 0))) :
    Calls Tryz.prog 99 #[.pointer (some ⟨R, 0, none⟩)] w fun e w' => e = .returned (.tuple #[]) ∧ Rd w' R B none ∧ Kp [R] w w' := by
  obtain ⟨c0, c1, f0, f1⟩ := rd_cells h
  have H := hide h
  clear h
  go_enter Tryz.func99, Tryz.ntmps99
  go_wp2_with fail
  go_end0
  refine ⟨rfl, ⟨hB, ?_⟩, ((Kp.refl _ _).setCell (.inl (by simp)) _).setCell (.inl (by simp)) _⟩
  have e1 := heap_setCell_same w R 1 _ 164 (.bool true) H.out
  have e2 := heap_setCell_same _ R 0 _ 164 (.slice none 0 0) e1
  rw [e2]; rfl
end Go.Proofs.YtnffagpdnklnkaaGreatDoor.Pak
