import Derived.Test.YtpdoacfiiledcaaGreatDoorSplB
import Derived.Lib.ConvBytes
namespace Go.Proofs.YtpdoacfiiledcaaGreatDoor.Spl
open Go.RowKit Go.Proofs.YtpdoacfiiledcaaGreatDoor Go.Proofs.YtpdoacfiiledcaaGreatDoor.SiftM

theorem bw_below (w : World) (e : TypeId) (s : ByteArray) : Below w.heap.size w (Lib.bytesWorld w e s) :=
  ⟨rfl, rfl, rfl, by rw [Lib.bytesWorld_size]; omega, fun k hk => Lib.bytesWorld_at_old w e s k hk⟩
theorem bw_frozen (w : World) (e : TypeId) (s : ByteArray) (j : Nat) (hj : j < s.size) : (Lib.bytesWorld w e s).frozen? ⟨w.heap.size, j, none⟩ = false := by
  have hz : s.size ≤ (Lib.bytesCells w e s).size := by simp [Lib.bytesCells]
  simp [World.frozen?, Lib.bytesWorld_at_new]; omega
theorem bw_cell (w : World) (e : TypeId) (s : ByteArray) (j : Nat) (hj : j < s.size) : (Lib.bytesWorld w e s).cell? ⟨w.heap.size, j, none⟩ = some (.int .u8 (s[j].toNat : Int)) := by
  rw [Lib.bytesWorld_cell w e s j hj]
  have hl : j < s.data.toList.length := by simpa using hj
  have e1 : s.data.toList.getD j 0 = s[j] := by rw [List.getD_eq_getElem?_getD, List.getElem?_eq_getElem hl]; rfl
  rw [e1]

theorem conv_bytes (t : ByteArray) (w : World) : (convert 9 112 (.string t)).run Tryz.prog w = .ok (.slice (some ⟨w.heap.size, 0, none⟩) t.size (grownCap w t.size 0 5)) (Lib.bytesWorld w 5 t) :=
  Lib.run_convert_string_bytes (P := Tryz.prog) w 9 112 5 t Tryz.underlying9 Tryz.underlying112 Tryz.underlying5

/-- What stands in the row behind k rounds. -/
def lowAt (t : ByteArray) (k j : Nat) (h : j < t.size) : Int := if j < k then ((low t[j]).toNat : Int) else (t[j].toNat : Int)

theorem low_bytes (t : ByteArray) (w : World) (B : Nat) (h : ∀ j (hj : j < t.size), w.cell? ⟨B, j, none⟩ = some (.int .u8 (lowAt t t.size j hj))) :
    Lib.Bytes w B 0 ⟨(t.data.toList.map low).toArray⟩ := by
  intro i hi
  have hz : (ByteArray.mk (t.data.toList.map low).toArray).size = t.size := by show (t.data.toList.map low).toArray.size = _; simp
  have hi' : i < t.size := by omega
  rw [Nat.zero_add, h i hi']
  unfold lowAt; rw [if_pos hi']
  have e5 : getElem (ByteArray.mk (t.data.toList.map low).toArray) i hi = low t[i] := by
    show getElem (t.data.toList.map low).toArray i _ = _
    simp; rfl
  rw [e5]

theorem conv_low (t : ByteArray) (w : World) (B cap : Nat) (h : ∀ j (hj : j < t.size), w.cell? ⟨B, j, none⟩ = some (.int .u8 (lowAt t t.size j hj))) :
    (convert 112 9 (.slice (some ⟨B, 0, none⟩) t.size cap)).run Tryz.prog w = .ok (.string ⟨(t.data.toList.map low).toArray⟩) w := by
  have hz : (ByteArray.mk (t.data.toList.map low).toArray).size = t.size := by show (t.data.toList.map low).toArray.size = _; simp
  have := Lib.run_convert_whole (P := Tryz.prog) w 112 5 9 Tryz.underlying112 Tryz.underlying5 Tryz.underlying9 B 0 ⟨(t.data.toList.map low).toArray⟩ (low_bytes t w B h) cap
  rw [hz] at this
  exact this

/-- The row's rounds: what is read and what a store leaves. -/
theorem low_read (t : ByteArray) (w : World) (B k : Nat) (hk : k < t.size) (h : ∀ j (hj : j < t.size), w.cell? ⟨B, j, none⟩ = some (.int .u8 (lowAt t k j hj))) :
    w.cell? ⟨B, k, none⟩ = some (.int .u8 (t[k].toNat : Int)) := by
  rw [h k hk]; unfold lowAt; rw [if_neg (by omega)]
theorem low_store (t : ByteArray) (w : World) (B k : Nat) (hk : k < t.size) (h : ∀ j (hj : j < t.size), w.cell? ⟨B, j, none⟩ = some (.int .u8 (lowAt t k j hj))) :
    ∀ j (hj : j < t.size), (w.setCell ⟨B, k, none⟩ (.int .u8 ((low t[k]).toNat : Int))).cell? ⟨B, j, none⟩ = some (.int .u8 (lowAt t (k + 1) j hj)) := by
  intro j hj
  by_cases e : k = j
  · subst e
    rw [World.cell?_setCell_same _ _ _ (h k hk)]
    unfold lowAt; rw [if_pos (by omega)]
  · rw [World.cell?_setCell_other _ _ _ _ (fun hh => e (congrArg Addr.off hh)), h j hj]
    unfold lowAt
    by_cases e2 : j < k
    · rw [if_pos e2, if_pos (by omega)]
    · rw [if_neg e2, if_neg (by omega)]
theorem wordL_take (s t : ByteArray) (n : Nat) (h : s.extract 0 n = t) (hn : n = min s.size 8) : t.data.toList.map low = wordL s.data.toList := by
  subst h
  rw [Lib.extract_data, hn]
  unfold wordL
  simp only [List.drop_zero, Nat.sub_zero]
  by_cases h8 : s.size ≤ 8
  · rw [Nat.min_eq_left h8, List.take_of_length_le (by simp), List.take_of_length_le (by simpa using h8)]
  · rw [Nat.min_eq_right (by omega)]

set_option maxHeartbeats 400000 in
set_option maxRecDepth 100000 in
theorem wordOf_any (s : ByteArray) (w : World) (hl : s.size ≤ 1000) :
    Calls Tryz.prog 277 #[.string s] w fun e w' => e = .returned (.string ⟨(wordL s.data.toList).toArray⟩) ∧ Below w.heap.size w w' := by
  have hcv := conv_bytes
  obtain ⟨t, ht⟩ : ∃ t, s.extract 0 (min s.size 8) = t := ⟨_, rfl⟩
  have htz : t.size = min s.size 8 := by rw [← ht]; simp
  have hfin : Hid (t.data.toList.map low = wordL s.data.toList) := wordL_take s t _ ht rfl
  rw [← htz] at ht
  have hm : min (s.size : Int) 8 = (t.size : Int) := by omega
  have h1 : t.size ≤ s.size := by omega
  have h2 : t.size ≤ 8 := by omega
  clear htz
  go_enter Tryz.func277, Tryz.ntmps277
  go_wp2_with fail
  clear hcv ht hm
  obtain ⟨W, hW⟩ : ∃ W, Lib.bytesWorld w 5 t = W := ⟨_, rfl⟩
  have c0 : ∀ j (hj : j < t.size), W.cell? ⟨w.heap.size, j, none⟩ = some (.int .u8 (lowAt t 0 j hj)) := fun j hj => by rw [← hW, bw_cell w 5 t j hj]; rfl
  have f0 : ∀ j, j < t.size → W.frozen? ⟨w.heap.size, j, none⟩ = false := fun j hj => by rw [← hW]; exact bw_frozen w 5 t j hj
  have b0 : Below w.heap.size w W := by rw [← hW]; exact bw_below w 5 t
  rw [hW]
  clear hW
  go_loopw [14] (fun i wr => ∃ k : Nat, k ≤ t.size ∧ i = .int .i64 k ∧ (∀ j (hj : j < t.size), wr.cell? ⟨w.heap.size, j, none⟩ = some (.int .u8 (lowAt t k j hj))) ∧ (∀ j, j < t.size → wr.frozen? ⟨w.heap.size, j, none⟩ = false) ∧ Below w.heap.size w wr) (fun i _ => t.size - (intOf i).toNat)
  case atStart => exact ⟨0, Nat.zero_le _, rfl, c0, f0, b0⟩
  case round =>
    clear c0 f0 b0
    obtain ⟨k, hk, rfl, hc, hf, hb⟩ := hrel
    by_cases hlt : k < t.size
    · have hr := low_read t wr _ k hlt hc
      have hfz := hf k hlt
      have HC := hide (low_store t wr _ k hlt hc)
      replace hf := hide hf
      replace hc := hide hc
      go_wp2_with fail
      refine (lowered_any _ _).mono ?_
      rintro e w' ⟨rfl, rfl⟩
      go_wp2_with fail
      go_roundw
      case rel => exact ⟨k + 1, by omega, by go_num, HC.out, fun j hj => by simpa using hf.out j hj, hb.setCell (Nat.le_refl _) _⟩
      case measure => simp [intOf]; omega
    · have e : k = t.size := by omega
      subst e
      have hcv : ∀ cap, (convert 112 9 (.slice (some ⟨w.heap.size, 0, none⟩) t.size cap)).run Tryz.prog wr = .ok (.string ⟨(t.data.toList.map low).toArray⟩) wr := fun cap => conv_low t wr w.heap.size cap hc
      clear hc hf
      go_wp2_with fail
      go_ret
      exact ⟨ret_str (by rw [hfin.out]), hb⟩
end Go.Proofs.YtpdoacfiiledcaaGreatDoor.Spl
