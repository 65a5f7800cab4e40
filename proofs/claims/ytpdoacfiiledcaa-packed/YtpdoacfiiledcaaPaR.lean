import Derived.Test.YtpdoacfiiledcaaPaQ
import Derived.Deep.RegionHeld3
set_option linter.unusedVariables false
set_option maxRecDepth 4000
namespace Go.Proofs.Ytpdoacfiiledcaa.Pak
open Go.RowKit Go.Proofs.Ytpdoacfiiledcaa SiftM

set_option maxHeartbeats 1000000 in
theorem same_texts (A B : Nat) (va vb : Value) (T : List Tx) (xs ys : List Value) (w : World) (ha : TextsIs w A va T xs) (hb : TextsIs w B vb T ys) (hT : T.length ≤ 1000) (hw : ∀ t ∈ T, t.2.length ≤ 1000) :
    Calls Try.prog 11 #[va, vb] w fun e w' => e = .returned (.bool true) ∧ Kp [] w w' := by
  obtain ⟨a1, c1, rfl, h1⟩ := owns_forms ha.row
  obtain ⟨a2, c2, rfl, h2⟩ := owns_forms hb.row
  obtain ⟨n, hn⟩ : ∃ n, T.length = n := ⟨_, rfl⟩
  rw [hn] at ha hb hT h1 h2
  rw [hn]
  have HA := hide ha
  have HB := hide hb
  have HW := hide hw
  have Hn := hide hn
  clear ha hb hw hn
  go_enter Try.func11, Try.ntmps11
  go_wp2_with fail
  go_loopw [5] (fun iv wr => ∃ k : Nat, k ≤ n ∧ iv = .int .i64 k ∧ Kp [] w wr) (fun iv _ => n - (intOf iv).toNat)
  case atStart => exact ⟨0, by omega, rfl, Kp.refl _ _⟩
  case round =>
    obtain ⟨k, hk, rfl, hkp⟩ := hrel
    by_cases hlt : k < n
    · obtain ⟨ga, rfl⟩ := h1 (by omega)
      obtain ⟨gb, rfl⟩ := h2 (by omega)
      have hkT : k < T.length := by rw [Hn.out]; exact hlt
      have hA := HA.out.kp0 hkp
      have hB := HB.out.kp0 hkp
      have hkx : k < xs.length := by rw [hA.len]; exact hkT
      have hky : k < ys.length := by rw [hB.len]; exact hkT
      obtain ⟨p0, p1⟩ := hA.cells k hkT hkx
      obtain ⟨q0, q1⟩ := hB.cells k hkT hky
      have oa := hA.each k hkT hkx
      have ob := hB.each k hkT hky
      obtain ⟨fa, da, ea, _⟩ := owns_forms oa
      obtain ⟨fb, db, eb, _⟩ := owns_forms ob
      rw [ea] at p1 oa
      rw [eb] at q1 ob
      have hwl := HW.out T[k] (List.getElem_mem hkT)
      obtain ⟨id, hid⟩ : ∃ id, T[k].1 = id := ⟨_, rfl⟩
      obtain ⟨ws, hws⟩ : ∃ ws, T[k].2 = ws := ⟨_, rfl⟩
      rw [hid] at p0 q0
      rw [hws] at p1 q1 oa ob hwl
      have hso : ∀ w', Kp [] wr w' → Calls Try.prog 7 #[.slice fa ws.length da, .slice fb ws.length db] w' fun e w'' => e = .returned (.bool true) ∧ Below w'.heap.size w' w'' := fun w' kk =>
        same_owned _ _ A B ws w' hwl (kk.owns oa (by simp)) (kk.owns ob (by simp))
      have HSO := hide hso
      have hga := (hA.row.lt ga rfl).2
      have hgb := (hB.row.lt gb rfl).2
      clear hA hB oa ob ea eb hid hws hso
      go_wp2_with fail
      go_region_held3 (fun w' => w'.cell? ⟨ga, k * 2 + 1, none⟩ = some (.slice fa ws.length da) ∧ w'.cell? ⟨gb, k * 2 + 1, none⟩ = some (.slice fb ws.length db)) (first | (exact ⟨s1, s2⟩) | go_keep)
        ((go_at_call 7; refine (HSO.out wr.drew ((Kp.refl _ _).drewN 1)).mono ?_; rintro e w3 ⟨rfl, hbel⟩; have k3 : Kp [] wr w3 := ((Kp.refl [] wr).drewN 1).next (Kp.of_below [] hbel); have s1 : w3.cell? ⟨ga, k * 2 + 1, none⟩ = some (.slice fa ws.length da) := k3.cellv p1 (by simp); have s2 : w3.cell? ⟨gb, k * 2 + 1, none⟩ = some (.slice fb ws.length db) := k3.cellv q1 (by simp)))
      all_goals
        have r0 := k3.cellv p0 (by simp)
        have r1 := k3.cellv q0 (by simp)
        have hz3 := k3.size
        have hkp3 := hkp.next k3
        clear p0 p1 q0 q1 s1 s2 hbel k3
        go_wp2_with fail
        go_region
        go_wp2_with fail
        go_roundw
        case rel => exact ⟨k + 1, by omega, by go_num, hkp3.drewN 1⟩
        case measure => simp [intOf]; omega
    · have ek : n = k := by omega
      subst ek
      go_wp2_with fail
      go_ret
      exact ⟨rfl, hkp⟩
end Go.Proofs.Ytpdoacfiiledcaa.Pak
