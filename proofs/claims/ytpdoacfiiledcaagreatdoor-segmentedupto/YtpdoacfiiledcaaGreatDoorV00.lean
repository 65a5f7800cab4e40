import Derived.Test.YtpdoacfiiledcaaGreatDoorProg
import Derived.WalkKit
import Derived.WalkSpells
import Derived.WalkLawsBesides
import Derived.BigQuiet
import Derived.Deep.QuietTactic
import Derived.Lib.SlBytesRow
import Derived.Lib.ConvBytes

namespace Go.Proofs.YtpdoacfiiledcaaGreatDoor.SiftM

def isSm (c : UInt8) : Bool := (decide (97 ≤ c.toNat) && decide (c.toNat ≤ 122)) || (decide (48 ≤ c.toNat) && decide (c.toNat ≤ 57))
def low (c : UInt8) : UInt8 := if 65 ≤ c.toNat ∧ c.toNat ≤ 90 then UInt8.ofNat (c.toNat + 32) else c
def isW (c : UInt8) : Bool := isSm (low c)
def wordL (r : List UInt8) : List UInt8 := (r.take 8).map low

/-- The words of what is left, with fuel. -/
def sp : Nat → List UInt8 → List (List UInt8)
  | 0, _ => []
  | f + 1, l => if l.length = 0 then [] else
      (if (l.takeWhile isW).length = 0 then [] else [wordL (l.takeWhile isW)]) ++ sp f (l.drop ((l.takeWhile isW).length + 1))

theorem sp_nil (f : Nat) : sp f [] = [] := by
  cases f <;> simp [sp]

theorem sp_fuel : ∀ (f g : Nat) (l : List UInt8), l.length ≤ f → l.length ≤ g → sp f l = sp g l
  | 0, g, l, hf, _ => by
    have : l = [] := List.length_eq_zero_iff.1 (by omega)
    subst this; rw [sp_nil, sp_nil]
  | f + 1, 0, l, _, hg => by
    have : l = [] := List.length_eq_zero_iff.1 (by omega)
    subst this; rw [sp_nil, sp_nil]
  | f + 1, g + 1, l, hf, hg => by
    unfold sp
    by_cases h : l.length = 0
    · rw [if_pos h, if_pos h]
    · rw [if_neg h, if_neg h]
      have hl : (l.drop ((l.takeWhile isW).length + 1)).length ≤ l.length - 1 := by simp; omega
      rw [sp_fuel f g _ (by omega) (by omega)]

def ext (len n : Nat) (s r : List UInt8) : Bool := decide (n / 10 / 18 % 9 = 8) && decide (len + s.length + r.length < 60)
theorem isSm_iff (c : UInt8) : isSm c = true ↔ (97 ≤ c.toNat ∧ c.toNat ≤ 122) ∨ (48 ≤ c.toNat ∧ c.toNat ≤ 57) := by simp [isSm]
/-- The byte of a word for a letter or digit, or 0. -/
def smR (c : UInt8) : UInt8 := if isW c = true then low c else 0
def stepR (p : List (List UInt8) × Nat) (c : UInt8) : List (List UInt8) × Nat :=
  if isW c = false then (p.1, 0)
  else if p.2 = 0 then (p.1 ++ [[low c]], 1)
  else (if p.2 < 8 then p.1.dropLast ++ [p.1.getLastD [] ++ [low c]] else p.1, p.2 + 1)
theorem run_fold : ∀ (r : List UInt8) (acc : List (List UInt8)) (w0 : List UInt8) (m : Nat), (∀ c ∈ r, isW c = true) → 1 ≤ m →
    r.foldl stepR (acc ++ [w0], m) = (acc ++ [w0 ++ (r.take (8 - m)).map low], m + r.length)
  | [], acc, w0, m, _, _ => by simp
  | c :: t, acc, w0, m, h, hm => by
    have hc := h c (by simp)
    have ht : ∀ d ∈ t, isW d = true := fun d hd => h d (by simp [hd])
    rw [List.foldl_cons]
    by_cases h8 : m < 8
    · have e : stepR (acc ++ [w0], m) c = (acc ++ [w0 ++ [low c]], m + 1) := by
        unfold stepR
        rw [if_neg (by simp [hc]), if_neg (by show ¬ m = 0; omega)]
        simp [h8]
      rw [e, run_fold t acc (w0 ++ [low c]) (m + 1) ht (by omega)]
      obtain ⟨j, hj⟩ : ∃ j, 8 - m = j + 1 := ⟨7 - m, by omega⟩
      rw [hj, show 8 - (m + 1) = j by omega]
      simp; omega
    · have e : stepR (acc ++ [w0], m) c = (acc ++ [w0], m + 1) := by
        unfold stepR
        rw [if_neg (by simp [hc]), if_neg (by show ¬ m = 0; omega)]
        simp [h8]
      rw [e, run_fold t acc w0 (m + 1) ht (by omega)]
      rw [show 8 - m = 0 by omega, show 8 - (m + 1) = 0 by omega]
      simp; omega
theorem word_fold (r : List UInt8) (acc : List (List UInt8)) (h : ∀ c ∈ r, isW c = true) (h0 : r ≠ []) : r.foldl stepR (acc, 0) = (acc ++ [wordL r], r.length) := by
  cases r with
  | nil => exact absurd rfl h0
  | cons c t =>
    have hc := h c (by simp)
    rw [List.foldl_cons]
    have e : stepR (acc, 0) c = (acc ++ [[low c]], 1) := by
      unfold stepR
      rw [if_neg (by simp [hc]), if_pos rfl]
    rw [e, run_fold t acc [low c] 1 (fun d hd => h d (by simp [hd])) (by omega)]
    unfold wordL
    simp; omega
theorem fold_sp : ∀ (f : Nat) (l : List UInt8) (acc : List (List UInt8)), l.length ≤ f → (l.foldl stepR (acc, 0)).1 = acc ++ sp f l
  | 0, l, acc, h => by
    have : l = [] := List.length_eq_zero_iff.1 (by omega)
    subst this; rw [sp_nil]; simp
  | f + 1, l, acc, h => by
    by_cases h0 : l.length = 0
    · have : l = [] := List.length_eq_zero_iff.1 h0
      subst this; rw [sp_nil]; simp
    · unfold sp
      rw [if_neg h0]
      have hr : ∀ c ∈ l.takeWhile isW, isW c = true := fun c hc => List.all_eq_true.1 (List.all_takeWhile (p := isW) (l := l)) c hc
      have hl : l = l.takeWhile isW ++ l.dropWhile isW := (List.takeWhile_append_dropWhile).symm
      have hd : l.drop ((l.takeWhile isW).length + 1) = (l.dropWhile isW).tail := by
        conv => lhs; rw [hl]
        rw [List.drop_append]
        simp
      rw [hd]
      have hlen : (l.takeWhile isW).length + (l.dropWhile isW).length = l.length := by
        rw [← List.length_append, ← hl]
      conv => lhs; rw [hl]
      rw [List.foldl_append]
      have hstep : ∀ (acc' : List (List UInt8)) (m : Nat), ((l.dropWhile isW).foldl stepR (acc', m)).1 = acc' ++ sp f (l.dropWhile isW).tail := by
        intro acc' m
        cases hdw : l.dropWhile isW with
        | nil => simp [sp_nil]
        | cons c t =>
          have hc : isW c = false := by
            have := List.head_dropWhile_not (l := l) isW (by rw [hdw]; simp)
            simpa [hdw] using this
          rw [List.foldl_cons]
          have e : stepR (acc', m) c = (acc', 0) := by unfold stepR; rw [if_pos hc]
          rw [e]
          exact fold_sp f t acc' (by rw [hdw] at hlen; simp at hlen; omega)
      by_cases hz : (l.takeWhile isW).length = 0
      · have : l.takeWhile isW = [] := List.length_eq_zero_iff.1 hz
        rw [if_pos hz, this, List.foldl_nil, List.nil_append, hstep]
      · rw [if_neg hz, word_fold _ acc hr (fun e => hz (by rw [e]; rfl)), hstep, List.append_assoc]
/-- The counting of runs gives the same words. -/
theorem ref_words (l : List UInt8) : (l.foldl stepR ([], 0)).1 = sp l.length l := by
  rw [fold_sp l.length l [] (Nat.le_refl _)]; rfl
end Go.Proofs.YtpdoacfiiledcaaGreatDoor.SiftM

namespace Go.Proofs.YtpdoacfiiledcaaGreatDoor.Spl
open Go.RowKit Go.Proofs.YtpdoacfiiledcaaGreatDoor Go.Proofs.YtpdoacfiiledcaaGreatDoor.SiftM

theorem hide {p : Prop} (h : p) : Hid p := h
theorem ret_int {k : IntKind} {a b : Int} (h : a = b) : Ending.returned (.int k a) = .returned (.int k b) := by rw [h]
theorem ret_bool {a b : Bool} (h : a = b) : Ending.returned (.bool a) = .returned (.bool b) := by rw [h]
theorem ret_str {a b : ByteArray} (h : a = b) : Ending.returned (.string a) = .returned (.string b) := by rw [h]

set_option maxHeartbeats 400000 in
theorem lowered_any (c : UInt8) (w : World) :
    Calls Tryz.prog 357 #[.int .u8 c.toNat] w fun e w' => e = .returned (.int .u8 (low c).toNat) ∧ w' = w := by
  have hc : (c.toNat : Int) ≤ 255 := by have := c.toNat_lt; omega
  by_cases h1 : (65 : Int) ≤ (c.toNat : Int)
  · by_cases h2 : (c.toNat : Int) ≤ 90
    · have e : Hid ((low c).toNat = c.toNat + 32) := by
        show (low c).toNat = c.toNat + 32
        unfold low; rw [if_pos (by omega)]; rw [UInt8.toNat_ofNat']; omega
      go_enter Tryz.func357, Tryz.ntmps357
      go_wp2
      go_ret
      exact ⟨ret_int (by rw [e.out]; omega), rfl⟩
    · have e : Hid (low c = c) := by show low c = c; unfold low; rw [if_neg (by omega)]
      go_enter Tryz.func357, Tryz.ntmps357
      go_wp2
      go_ret
      exact ⟨ret_int (by rw [e.out]), rfl⟩
  · have e : Hid (low c = c) := by show low c = c; unfold low; rw [if_neg (by omega)]
    go_enter Tryz.func357, Tryz.ntmps357
    go_wp2
    go_ret
    exact ⟨ret_int (by rw [e.out]), rfl⟩

theorem isSm_int (c : UInt8) : isSm c = (decide ((97 : Int) ≤ c.toNat) && decide ((c.toNat : Int) ≤ 122) || decide ((48 : Int) ≤ c.toNat) && decide ((c.toNat : Int) ≤ 57)) := by
  rw [Bool.eq_iff_iff]; simp [isSm]; omega

set_option maxHeartbeats 400000 in
theorem small_any (c : UInt8) (w : World) :
    Calls Tryz.prog 356 #[.int .u8 c.toNat] w fun e w' => e = .returned (.bool (isSm c)) ∧ w' = w := by
  have hs := hide (isSm_int c)
  by_cases h1 : (97 : Int) ≤ (c.toNat : Int)
  · by_cases h2 : (c.toNat : Int) ≤ 122
    · go_enter Tryz.func356, Tryz.ntmps356
      go_wp2
      go_ret
      exact ⟨ret_bool (by rw [hs.out]; simp [h1, h2]), rfl⟩
    · have h3 : (48 : Int) ≤ (c.toNat : Int) := by omega
      have h4 : ¬ (c.toNat : Int) ≤ 57 := by omega
      go_enter Tryz.func356, Tryz.ntmps356
      go_wp2
      go_ret
      exact ⟨ret_bool (by rw [hs.out]; simp; omega), rfl⟩
  · by_cases h3 : (48 : Int) ≤ (c.toNat : Int)
    · by_cases h4 : (c.toNat : Int) ≤ 57
      · go_enter Tryz.func356, Tryz.ntmps356
        go_wp2
        go_ret
        exact ⟨ret_bool (by rw [hs.out]; simp; omega), rfl⟩
      · go_enter Tryz.func356, Tryz.ntmps356
        go_wp2
        go_ret
        exact ⟨ret_bool (by rw [hs.out]; simp; omega), rfl⟩
    · go_enter Tryz.func356, Tryz.ntmps356
      go_wp2
      go_ret
      exact ⟨ret_bool (by rw [hs.out]; simp; omega), rfl⟩

/-- The end of the run of letters and digits that begins at k. -/
def runE (s : ByteArray) (k : Nat) : Nat := k + ((s.data.toList.drop k).takeWhile isW).length

theorem runE_hit (s : ByteArray) (m : Nat) (h : m < s.size) (hw : isSm (low s[m]) = true) : runE s m = runE s (m + 1) := by
  unfold runE
  have hl : m < s.data.toList.length := by simpa using h
  rw [List.drop_eq_getElem_cons hl, List.takeWhile_cons]
  have e : s.data.toList[m] = s[m] := rfl
  have hw' : isW s.data.toList[m] = true := by rw [e]; exact hw
  rw [if_pos hw']
  simp; omega
theorem runE_miss (s : ByteArray) (m : Nat) (h : m < s.size) (hw : isSm (low s[m]) = false) : runE s m = m := by
  unfold runE
  have hl : m < s.data.toList.length := by simpa using h
  rw [List.drop_eq_getElem_cons hl, List.takeWhile_cons]
  have e : s.data.toList[m] = s[m] := rfl
  have hw' : isW s.data.toList[m] = false := by rw [e]; exact hw
  rw [if_neg (by rw [hw']; simp)]; rfl
theorem runE_end (s : ByteArray) (m : Nat) (h : ¬ m < s.size) : runE s m = m := by
  unfold runE
  have hl : s.data.toList.length ≤ m := by simpa using h
  rw [List.drop_of_length_le hl]; rfl

set_option maxHeartbeats 400000 in
theorem runEnd_any (s : ByteArray) (k : Nat) (w : World) (hs : s.size ≤ 1000000) (hk : k ≤ s.size) :
    Calls Tryz.prog 276 #[.string s, .int .i64 k] w fun e w' => e = .returned (.int .i64 (runE s k)) ∧ w' = w := by
  go_enter Tryz.func276, Tryz.ntmps276
  go_wp2_with fail
  go_loop [1] (fun i => ∃ m : Nat, k ≤ m ∧ m ≤ s.size ∧ i = .int .i64 m ∧ runE s k = runE s m) (fun i => s.size - (intOf i).toNat)
  case atStart => exact ⟨k, Nat.le_refl _, hk, rfl, rfl⟩
  case round =>
    obtain ⟨m, h1, h2, rfl, hr⟩ := hrel
    replace hr := hide hr
    by_cases hlt : m < s.size
    · have HH := hide (runE_hit s m hlt)
      have HM := hide (runE_miss s m hlt)
      go_wp2_with fail
      refine (lowered_any _ _).mono ?_
      rintro e w' ⟨rfl, rfl⟩
      go_wp2_with fail
      refine (small_any _ _).mono ?_
      rintro e w' ⟨rfl, rfl⟩
      cases hw : isSm (low s[m])
      · go_wp2_with fail
        go_ret
        exact ⟨ret_int (by rw [hr.out, HM.out hw]), rfl⟩
      · go_wp2_with fail
        go_round
        case rel => exact ⟨m + 1, by omega, by omega, by go_num, by rw [hr.out, HH.out hw]⟩
        case measure => simp [intOf]; omega
    · have HM := hide (runE_end s m hlt)
      go_wp2_with fail
      go_ret
      exact ⟨ret_int (by rw [hr.out, HM.out]), rfl⟩
end Go.Proofs.YtpdoacfiiledcaaGreatDoor.Spl

namespace Go.Proofs.YtpdoacfiiledcaaGreatDoor.Spl
open Go.RowKit Go.Proofs.YtpdoacfiiledcaaGreatDoor Go.Proofs.YtpdoacfiiledcaaGreatDoor.SiftM

theorem one_byte (w : World) (x : Int) (c : UInt8) (hx : (c.toNat : Int) = x) : Lib.Bytes (w.alloc (.cells #[.int .u8 x] 5)) w.heap.size 0 ⟨#[c]⟩ := by
  intro i hi
  have hz : (ByteArray.mk #[c]).size = 1 := rfl
  have : i = 0 := by omega
  subst this
  rw [World.cell?_alloc_at _ _ _ _ rfl, ← hx]; rfl

theorem conv_one (x : Int) (c : UInt8) (hx : (c.toNat : Int) = x) (w : World) :
    (convert 112 9 (.slice (some ⟨w.heap.size, 0, none⟩) 1 1)).run Tryz.prog (w.alloc (.cells #[.int .u8 x] 5)) = .ok (.string ⟨#[c]⟩) (w.alloc (.cells #[.int .u8 x] 5)) :=
  Lib.run_convert_whole (P := Tryz.prog) _ 112 5 9 Tryz.underlying112 Tryz.underlying5 Tryz.underlying9 w.heap.size 0 ⟨#[c]⟩ (one_byte w x c hx) 1

theorem mk_snoc (l : List UInt8) (d : UInt8) : (ByteArray.mk l.toArray ++ ByteArray.mk #[d]) = ByteArray.mk (l ++ [d]).toArray := Go.ByteArray.mk_append_mk l [d]
end Go.Proofs.YtpdoacfiiledcaaGreatDoor.Spl

namespace Go.Proofs.YtpdoacfiiledcaaGreatDoor.Spl
open Go.RowKit Go.Proofs.YtpdoacfiiledcaaGreatDoor Go.Proofs.YtpdoacfiiledcaaGreatDoor.SiftM

theorem bw_below (w : World) (e : TypeId) (s : ByteArray) : Below w.heap.size w (Lib.bytesWorld w e s) :=
  ⟨rfl, rfl, rfl, by rw [Lib.bytesWorld_size]; omega, fun k hk => Lib.bytesWorld_at_old w e s k hk⟩
theorem bw_frozen (w : World) (e : TypeId) (s : ByteArray) (j : Nat) (hj : j < s.size) : (Lib.bytesWorld w e s).frozen? ⟨w.heap.size, j, none⟩ = false := by
  have hz : s.size ≤ (Lib.bytesCells w e s).size := by simp [Lib.bytesCells]
  simp [World.frozen?, Lib.bytesWorld_at_new]; omega
theorem bw_cell (w : World) (e : TypeId) (s : ByteArray) (j : Nat) (hj : j < s.size) : (Lib.bytesWorld w e s).cell? ⟨w.heap.size, j, none⟩ = some (.int .u8 (s[j].toNat : Int)) := by
  rw [Lib.bytesWorld_cell w e s j hj]
  have hl : j < s.data.toList.length := by simpa using hj
  have e1 : s.data.toList.getD j 0 = s[j] := by rw [List.getD_eq_getElem?_getD, List.getElem?_eq_getElem hl]; rfl
  rw [e1]

theorem conv_bytes (t : ByteArray) (w : World) : (convert 9 112 (.string t)).run Tryz.prog w = .ok (.slice (some ⟨w.heap.size, 0, none⟩) t.size (grownCap w t.size 0 5)) (Lib.bytesWorld w 5 t) :=
  Lib.run_convert_string_bytes (P := Tryz.prog) w 9 112 5 t Tryz.underlying9 Tryz.underlying112 Tryz.underlying5

/-- What stands in the row behind k rounds. -/
def lowAt (t : ByteArray) (k j : Nat) (h : j < t.size) : Int := if j < k then ((low t[j]).toNat : Int) else (t[j].toNat : Int)

theorem low_bytes (t : ByteArray) (w : World) (B : Nat) (h : ∀ j (hj : j < t.size), w.cell? ⟨B, j, none⟩ = some (.int .u8 (lowAt t t.size j hj))) :
    Lib.Bytes w B 0 ⟨(t.data.toList.map low).toArray⟩ := by
  intro i hi
  have hz : (ByteArray.mk (t.data.toList.map low).toArray).size = t.size := by show (t.data.toList.map low).toArray.size = _; simp
  have hi' : i < t.size := by omega
  rw [Nat.zero_add, h i hi']
  unfold lowAt; rw [if_pos hi']
  have e5 : getElem (ByteArray.mk (t.data.toList.map low).toArray) i hi = low t[i] := by
    show getElem (t.data.toList.map low).toArray i _ = _
    simp; rfl
  rw [e5]

theorem conv_low (t : ByteArray) (w : World) (B cap : Nat) (h : ∀ j (hj : j < t.size), w.cell? ⟨B, j, none⟩ = some (.int .u8 (lowAt t t.size j hj))) :
    (convert 112 9 (.slice (some ⟨B, 0, none⟩) t.size cap)).run Tryz.prog w = .ok (.string ⟨(t.data.toList.map low).toArray⟩) w := by
  have hz : (ByteArray.mk (t.data.toList.map low).toArray).size = t.size := by show (t.data.toList.map low).toArray.size = _; simp
  have := Lib.run_convert_whole (P := Tryz.prog) w 112 5 9 Tryz.underlying112 Tryz.underlying5 Tryz.underlying9 B 0 ⟨(t.data.toList.map low).toArray⟩ (low_bytes t w B h) cap
  rw [hz] at this
  exact this

/-- The row's rounds: what is read and what a store leaves. -/
theorem low_read (t : ByteArray) (w : World) (B k : Nat) (hk : k < t.size) (h : ∀ j (hj : j < t.size), w.cell? ⟨B, j, none⟩ = some (.int .u8 (lowAt t k j hj))) :
    w.cell? ⟨B, k, none⟩ = some (.int .u8 (t[k].toNat : Int)) := by
  rw [h k hk]; unfold lowAt; rw [if_neg (by omega)]
theorem low_store (t : ByteArray) (w : World) (B k : Nat) (hk : k < t.size) (h : ∀ j (hj : j < t.size), w.cell? ⟨B, j, none⟩ = some (.int .u8 (lowAt t k j hj))) :
    ∀ j (hj : j < t.size), (w.setCell ⟨B, k, none⟩ (.int .u8 ((low t[k]).toNat : Int))).cell? ⟨B, j, none⟩ = some (.int .u8 (lowAt t (k + 1) j hj)) := by
  intro j hj
  by_cases e : k = j
  · subst e
    rw [World.cell?_setCell_same _ _ _ (h k hk)]
    unfold lowAt; rw [if_pos (by omega)]
  · rw [World.cell?_setCell_other _ _ _ _ (fun hh => e (congrArg Addr.off hh)), h j hj]
    unfold lowAt
    by_cases e2 : j < k
    · rw [if_pos e2, if_pos (by omega)]
    · rw [if_neg e2, if_neg (by omega)]
theorem wordL_take (s t : ByteArray) (n : Nat) (h : s.extract 0 n = t) (hn : n = min s.size 8) : t.data.toList.map low = wordL s.data.toList := by
  subst h
  rw [Lib.extract_data, hn]
  unfold wordL
  simp only [List.drop_zero, Nat.sub_zero]
  by_cases h8 : s.size ≤ 8
  · rw [Nat.min_eq_left h8, List.take_of_length_le (by simp), List.take_of_length_le (by simpa using h8)]
  · rw [Nat.min_eq_right (by omega)]

set_option maxHeartbeats 400000 in
set_option maxRecDepth 100000 in
theorem wordOf_any (s : ByteArray) (w : World) (hl : s.size ≤ 1000) :
    Calls Tryz.prog 277 #[.string s] w fun e w' => e = .returned (.string ⟨(wordL s.data.toList).toArray⟩) ∧ Below w.heap.size w w' := by
  have hcv := conv_bytes
  obtain ⟨t, ht⟩ : ∃ t, s.extract 0 (min s.size 8) = t := ⟨_, rfl⟩
  have htz : t.size = min s.size 8 := by rw [← ht]; simp
  have hfin : Hid (t.data.toList.map low = wordL s.data.toList) := wordL_take s t _ ht rfl
  rw [← htz] at ht
  have hm : min (s.size : Int) 8 = (t.size : Int) := by omega
  have h1 : t.size ≤ s.size := by omega
  have h2 : t.size ≤ 8 := by omega
  clear htz
  go_enter Tryz.func277, Tryz.ntmps277
  go_wp2_with fail
  clear hcv ht hm
  obtain ⟨W, hW⟩ : ∃ W, Lib.bytesWorld w 5 t = W := ⟨_, rfl⟩
  have c0 : ∀ j (hj : j < t.size), W.cell? ⟨w.heap.size, j, none⟩ = some (.int .u8 (lowAt t 0 j hj)) := fun j hj => by rw [← hW, bw_cell w 5 t j hj]; rfl
  have f0 : ∀ j, j < t.size → W.frozen? ⟨w.heap.size, j, none⟩ = false := fun j hj => by rw [← hW]; exact bw_frozen w 5 t j hj
  have b0 : Below w.heap.size w W := by rw [← hW]; exact bw_below w 5 t
  rw [hW]
  clear hW
  go_loopw [14] (fun i wr => ∃ k : Nat, k ≤ t.size ∧ i = .int .i64 k ∧ (∀ j (hj : j < t.size), wr.cell? ⟨w.heap.size, j, none⟩ = some (.int .u8 (lowAt t k j hj))) ∧ (∀ j, j < t.size → wr.frozen? ⟨w.heap.size, j, none⟩ = false) ∧ Below w.heap.size w wr) (fun i _ => t.size - (intOf i).toNat)
  case atStart => exact ⟨0, Nat.zero_le _, rfl, c0, f0, b0⟩
  case round =>
    clear c0 f0 b0
    obtain ⟨k, hk, rfl, hc, hf, hb⟩ := hrel
    by_cases hlt : k < t.size
    · have hr := low_read t wr _ k hlt hc
      have hfz := hf k hlt
      have HC := hide (low_store t wr _ k hlt hc)
      replace hf := hide hf
      replace hc := hide hc
      go_wp2_with fail
      refine (lowered_any _ _).mono ?_
      rintro e w' ⟨rfl, rfl⟩
      go_wp2_with fail
      go_roundw
      case rel => exact ⟨k + 1, by omega, by go_num, HC.out, fun j hj => by simpa using hf.out j hj, hb.setCell (Nat.le_refl _) _⟩
      case measure => simp [intOf]; omega
    · have e : k = t.size := by omega
      subst e
      have hcv : ∀ cap, (convert 112 9 (.slice (some ⟨w.heap.size, 0, none⟩) t.size cap)).run Tryz.prog wr = .ok (.string ⟨(t.data.toList.map low).toArray⟩) wr := fun cap => conv_low t wr w.heap.size cap hc
      clear hc hf
      go_wp2_with fail
      go_ret
      exact ⟨ret_str (by rw [hfin.out]), hb⟩
end Go.Proofs.YtpdoacfiiledcaaGreatDoor.Spl

namespace Go.Proofs.YtpdoacfiiledcaaGreatDoor.Spl
open Go.RowKit Go.Proofs.YtpdoacfiiledcaaGreatDoor Go.Proofs.YtpdoacfiiledcaaGreatDoor.SiftM
set_option linter.unusedVariables false

theorem Tryz.info9 : (Tryz.prog.info? 9).map (fun i => (i.zero, i.size, i.bytes)) = some (some (.string ⟨#[]⟩), 1, 16) := by kernel_rfl

theorem grown_of_below {w w' : World} (h : Below w.heap.size w w') : w.grownBy w' none := ⟨h.os, h.tape, h.output, h.size, fun k hk _ => h.block k hk⟩
theorem owns_below {w w' : World} {base : Nat} {e : TypeId} {size : Nat} {v : Value} {n : Nat} {xs : List Value} (h : w.ownsRow base e size v n xs) (hb : Below w.heap.size w w') : w'.ownsRow base e size v n xs :=
  h.kept (grown_of_below hb) (Classical.em _)
/-- The values of a list of words. -/
def strV (l : List (List UInt8)) : List Value := l.map fun s => Value.string ⟨s.toArray⟩
theorem strV_length (l : List (List UInt8)) : (strV l).length = l.length := by simp [strV]
theorem strV_snoc (l : List (List UInt8)) (x : List UInt8) : strV (l ++ [x]) = strV l ++ [Value.string ⟨x.toArray⟩] := by simp [strV]

theorem runE_run (s : ByteArray) (k : Nat) (hk : k ≤ s.size) : (s.extract k (runE s k)).data.toList = (s.data.toList.drop k).takeWhile isW := by
  rw [Lib.extract_data]
  unfold runE
  rw [show k + ((s.data.toList.drop k).takeWhile isW).length - k = ((s.data.toList.drop k).takeWhile isW).length by omega]
  exact (List.prefix_iff_eq_take.1 (List.takeWhile_prefix _)).symm
theorem runE_le (s : ByteArray) (k : Nat) (hk : k ≤ s.size) : k ≤ runE s k ∧ runE s k ≤ s.size := by
  unfold runE
  have h := (List.takeWhile_prefix (l := s.data.toList.drop k) isW).length_le
  have hl : s.data.toList.length = s.size := by simp
  rw [List.length_drop] at h
  omega
theorem sp_open (s : ByteArray) (k : Nat) (hk : k < s.size) : sp s.size (s.data.toList.drop k) =
    (if ((s.data.toList.drop k).takeWhile isW).length = 0 then [] else [wordL ((s.data.toList.drop k).takeWhile isW)]) ++ sp s.size (s.data.toList.drop (runE s k + 1)) := by
  have hl : s.data.toList.length = s.size := by simp
  obtain ⟨f, hf⟩ : ∃ f, s.size = f + 1 := ⟨s.size - 1, by omega⟩
  rw [hf]
  conv => lhs; unfold sp
  rw [if_neg (by rw [List.length_drop]; omega), List.drop_drop]
  rw [show k + (((s.data.toList.drop k).takeWhile isW).length + 1) = runE s k + 1 by unfold runE; omega]
  rw [sp_fuel f (f + 1) _ (by rw [List.length_drop]; omega) (by rw [List.length_drop]; omega)]
theorem sp_step_word (s : ByteArray) (k : Nat) (acc : List (List UInt8)) (hk : k < s.size) (he : k < runE s k)
    (h : acc ++ sp s.size (s.data.toList.drop k) = sp s.size s.data.toList) :
    (acc ++ [wordL (s.extract k (runE s k)).data.toList]) ++ sp s.size (s.data.toList.drop (runE s k + 1)) = sp s.size s.data.toList := by
  rw [← h, sp_open s k hk, runE_run s k (by omega), if_neg (by unfold runE at he; omega), List.append_assoc]
theorem sp_step_none (s : ByteArray) (k : Nat) (acc : List (List UInt8)) (hk : k < s.size) (he : ¬ k < runE s k)
    (h : acc ++ sp s.size (s.data.toList.drop k) = sp s.size s.data.toList) :
    acc ++ sp s.size (s.data.toList.drop (runE s k + 1)) = sp s.size s.data.toList := by
  rw [← h, sp_open s k hk, if_pos (by unfold runE at he; omega), List.nil_append]
theorem sp_done (s : ByteArray) (k : Nat) (acc : List (List UInt8)) (hk : ¬ k < s.size)
    (h : acc ++ sp s.size (s.data.toList.drop k) = sp s.size s.data.toList) : acc = sp s.size s.data.toList := by
  rw [← h, List.drop_of_length_le (by simp; omega), sp_nil, List.append_nil]

set_option maxHeartbeats 400000 in
set_option maxRecDepth 100000 in
theorem splitW_any (s : ByteArray) (w : World) (hs : s.size ≤ 1000) :
    Calls Tryz.prog 170 #[.string s] w fun e w' => ∃ v, e = .returned v ∧ w'.ownsRow w.heap.size 9 1 v (sp s.size s.data.toList).length (strV (sp s.size s.data.toList)) ∧ Below w.heap.size w w' := by
  obtain ⟨i0, hi, hz0, hz1, hz2⟩ := info_parts Tryz.info9
  go_enter Tryz.func170, Tryz.ntmps170
  go_wp2_with fail
  go_loopw [3, 4] (fun v i wr => ∃ k : Nat, ∃ acc : List (List UInt8), k ≤ s.size + 1 ∧ acc.length ≤ k ∧ i = .int .i64 k ∧ wr.ownsRow w.heap.size 9 1 v acc.length (strV acc) ∧ acc ++ sp s.size (s.data.toList.drop k) = sp s.size s.data.toList ∧ Below w.heap.size w wr) (fun _ i _ => s.size + 1 - (intOf i).toNat)
  case atStart => exact ⟨0, [], Nat.zero_le _, Nat.zero_le _, rfl, World.ownsRow_nil _ _ _ _, rfl, Below.refl _ _⟩
  case round =>
    obtain ⟨k, acc, h1, h2, rfl, hown, hsp, hb⟩ := hrel
    have hbz := hb.size
    by_cases hlt : k < s.size
    · have hr := runE_le s k (by omega)
      by_cases he : k < runE s k
      · have HS := hide (sp_step_word s k acc hlt he hsp)
        replace hsp := hide hsp
        go_wp2_with fail
        refine (runEnd_any _ _ _ (by omega) (by omega)).mono ?_
        rintro e w' ⟨rfl, rfl⟩
        go_wp2_with fail
        refine (wordOf_any _ _ (by simp; omega)).mono ?_
        rintro e w1 ⟨rfl, hb1⟩
        have hown1 := owns_below hown hb1
        have hbz1 := hb1.size
        go_wp2_with (first
          | (at_builtin; refine wpList_append_own _ rfl _ _ 67 rfl w.heap.size 9 i0 (.string ⟨#[]⟩) 1 16 Tryz.underlying67 hi hz0 hz1 hz2 rfl (by decide) _ _ _ rfl (hown1.alloc _) ⟨w1.heap.size, 0, none⟩ 1 1 [.string ⟨(wordL (s.extract k (runE s k)).data.toList).toArray⟩] rfl rfl ?c1 ?c2 ?c3 ?c4 ?c5 ?_)
          | fail)
        case c1 =>
          intro j u hj
          match j, hj with
          | 0, hj => simp at hj; subst hj; simp [Addr.add]
        case c2 => intro u hu; simp at hu; subst hu; rfl
        case c3 => unfold maxLen; omega
        case c4 => omega
        case c5 => simp; omega
        intro v' w2 hown2 hgrow _
        go_wp2_with fail
        go_roundw
        case rel => 
          refine ⟨runE s k + 1, acc ++ [wordL (s.extract k (runE s k)).data.toList], by omega, by simp; omega, by go_num, ?_, HS.out, ?_⟩
          · rw [strV_snoc]; simpa using hown2
          · exact ((hb.trans (hb1.mono hbz)).alloc (by omega) _).grown hgrow (by simp; omega) (fun k hk => (hown1.lt k hk).1)
        case measure => simp [intOf]; omega
      · have HS := hide (sp_step_none s k acc hlt he hsp)
        replace hsp := hide hsp
        go_wp2_with fail
        refine (runEnd_any _ _ _ (by omega) (by omega)).mono ?_
        rintro e w' ⟨rfl, rfl⟩
        go_wp2_with fail
        go_roundw
        case rel => exact ⟨runE s k + 1, acc, by omega, by omega, by go_num, hown, HS.out, hb⟩
        case measure => simp [intOf]; omega
    · have HS := hide (sp_done s k acc hlt hsp)
      replace hsp := hide hsp
      go_wp2_with fail
      go_ret
      exact ⟨_, rfl, by rw [← HS.out]; exact hown, hb⟩
end Go.Proofs.YtpdoacfiiledcaaGreatDoor.Spl

namespace Go.Proofs.YtpdoacfiiledcaaGreatDoor.Spl
open Go.RowKit Go.Proofs.YtpdoacfiiledcaaGreatDoor Go.Proofs.YtpdoacfiiledcaaGreatDoor.SiftM
set_option linter.unusedVariables false

set_option maxHeartbeats 400000 in
theorem words_ok (s : ByteArray) (w : World) (hs : s.size ≤ 120) :
    Calls Tryz.prog 71 #[.string s] w fun e w' => ∃ v, e = .returned (.tuple #[v, .int .i64 0]) ∧ w'.ownsRow w.heap.size 9 1 v (sp s.size s.data.toList).length (strV (sp s.size s.data.toList)) ∧ Below w.heap.size w w' := by
  go_enter Tryz.func71, Tryz.ntmps71
  go_wp2_with fail
  refine (splitW_any _ _ (by omega)).mono ?_
  rintro e w1 ⟨v, rfl, hown, hb⟩
  go_wp2_with fail
  go_ret2
  exact ⟨_, rfl, hown, hb⟩

set_option maxHeartbeats 400000 in
theorem words_long (s : ByteArray) (w : World) (hs : 120 < s.size) :
    Calls Tryz.prog 71 #[.string s] w fun e w' => e = .returned (.tuple #[.slice none 0 0, .int .i64 4]) ∧ w' = w := by
  go_enter Tryz.func71, Tryz.ntmps71
  go_wp2_with fail
  go_ret2
  exact ⟨rfl, rfl⟩

theorem bel_drewN (w : World) (n : Nat) : Below w.heap.size w (w.drewN n) := ⟨rfl, rfl, rfl, Nat.le_refl _, fun _ _ => rfl⟩

theorem owns_forms {w : World} {base size n : Nat} {e : TypeId} {v : Value} {xs : List Value} (h : w.ownsRow base e size v n xs) : ∃ a cap, v = .slice a n cap ∧ (0 < n → ∃ g, a = some ⟨g, 0, none⟩) := by
  rcases h.2 with ⟨rfl, rfl⟩ | ⟨g, cap, cur, rfl, _⟩
  · exact ⟨_, _, rfl, fun h => by omega⟩
  · exact ⟨_, _, rfl, fun _ => ⟨g, rfl⟩⟩
theorem owns_cells {w : World} {base n g cap : Nat} {l : List (List UInt8)} (h : w.ownsRow base 9 1 (.slice (some ⟨g, 0, none⟩) n cap) n (strV l)) (hl : l.length = n) :
    ∀ j, j < n → w.cell? ⟨g, j, none⟩ = some (.string ⟨(l.getD j []).toArray⟩) := by
  intro j hj
  rw [h.cellAt j (by omega)]
  simp [strV, List.getD_eq_getElem?_getD, List.getElem?_eq_getElem (by omega : j < l.length)]

end Go.Proofs.YtpdoacfiiledcaaGreatDoor.Spl

