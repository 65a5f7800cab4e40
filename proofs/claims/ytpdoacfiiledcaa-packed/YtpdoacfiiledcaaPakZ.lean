import Derived.Test.YtpdoacfiiledcaaPakY
import Derived.Deep.RegionHeld3
import Derived.BigQuiet
import Derived.Deep.QuietTactic
namespace Go.Proofs.Ytpdoacfiiledcaa.Pak
open Go.RowKit Go.Proofs.Ytpdoacfiiledcaa SiftM
set_option linter.unusedVariables false

def idsB : Option Int → List Dc → Bool
  | _, [] => true
  | p, x :: r => if x.1 < 0 ∨ 99999 < x.1 ∨ p = some x.1 then false else idsB (some x.1) r
def prevOf (D : List Dc) (k : Nat) : Option Int := if k = 0 then none else (D[k - 1]?).map Prod.fst
theorem docs_cells {w : World} {B g n cap : Nat} {D : List Dc} (h : w.ownsRow B 43 2 (.slice (some ⟨g, 0, none⟩) n cap) n (docV D)) (i : Nat) (hi : i < D.length) :
    w.cell? ⟨g, i * 2, none⟩ = some (.int .i64 D[i].1) ∧ w.cell? ⟨g, i * 2 + 1, none⟩ = some (.string D[i].2) := by
  have hg := docV_get D i hi
  have ea : ∀ j, (⟨g, 0, none⟩ : Addr).add j = ⟨g, j, none⟩ := by intro j; unfold Addr.add; split <;> simp_all
  have c0 := h.cells (g := g) rfl _ _ hg.1
  have c1 := h.cells (g := g) rfl _ _ hg.2
  rw [ea] at c0 c1
  exact ⟨c0, c1⟩

set_option maxHeartbeats 400000 in
theorem idmay_any (id : Int) (b : Bool) (hb : (decide (0 ≤ id) && decide (id ≤ 99999)) = b) (w : World) :
    Calls Try.prog 27 #[.int .i64 id] w fun e w' => e = .returned (.bool b) ∧ w' = w := by
  have HB := hide hb
  clear hb
  by_cases h1 : (0 : Int) ≤ id
  · by_cases h2 : id ≤ 99999
    · go_enter Try.func27, Try.ntmps27
      go_wp2_with fail
      go_ret
      exact ⟨ret_bool (by rw [← HB.out]; simp; omega), rfl⟩
    · go_enter Try.func27, Try.ntmps27
      go_wp2_with fail
      go_ret
      exact ⟨ret_bool (by rw [← HB.out]; simp; omega), rfl⟩
  · go_enter Try.func27, Try.ntmps27
    go_wp2_with fail
    go_ret
    exact ⟨ret_bool (by rw [← HB.out]; simp; omega), rfl⟩

set_option maxHeartbeats 2000000 in
set_option maxRecDepth 100000 in
theorem ids_any (B : Nat) (v : Value) (D : List Dc) (w : World) (h : w.ownsRow B 43 2 v D.length (docV D)) (hn : D.length ≤ 1000000) :
    Calls Try.prog 17 #[v] w fun e w' => e = .returned (.bool (idsB none D)) ∧ Kp [] w w' := by
  obtain ⟨a, cap, rfl, ha⟩ := owns_forms h
  obtain ⟨res, hres⟩ : ∃ res, idsB none D = res := ⟨_, rfl⟩
  rw [hres]
  have HR := hide hres
  have HH := hide h
  clear h hres
  go_enter Try.func17, Try.ntmps17
  go_wp2_with fail
  go_loopw [7] (fun iv wr => ∃ k : Nat, k ≤ D.length ∧ iv = .int .i64 k ∧ idsB (prevOf D k) (D.drop k) = res ∧ Kp [] w wr) (fun iv _ => D.length - (intOf iv).toNat)
  case atStart => exact ⟨0, by omega, rfl, HR.out, Kp.refl _ _⟩
  case round =>
    obtain ⟨k, hk, rfl, hd, hkp⟩ := hrel
    by_cases hlt : k < D.length
    · obtain ⟨g, rfl⟩ := ha (by omega)
      have ho := hkp.owns HH.out (by simp)
      obtain ⟨q0, q1⟩ := docs_cells ho k hlt
      have hdk : D.drop k = D[k] :: D.drop (k + 1) := List.drop_eq_getElem_cons hlt
      rw [hdk] at hd
      have hpn : Hid (prevOf D (k + 1) = some D[k].1) := by show _ = _; simp [prevOf, hlt]
      have hpp : 0 < k → w.heap.size ≤ w.heap.size ∧ ∃ y, prevOf D k = some y ∧ wr.cell? ⟨g, (k - 1) * 2, none⟩ = some (.int .i64 y) := by
        intro h0
        have hk1 : k - 1 < D.length := by omega
        refine ⟨Nat.le_refl _, D[k - 1].1, ?_, (docs_cells ho (k - 1) hk1).1⟩
        unfold prevOf
        rw [if_neg (by omega), List.getElem?_eq_getElem hk1]; rfl
      obtain ⟨x, hx⟩ : ∃ x, D[k] = x := ⟨_, rfl⟩
      rw [hx] at q0 q1 hd hpn
      obtain ⟨id, bd⟩ := x
      simp only at q0 q1 hpn
      have HD := hide hd
      have HPP := hide hpp
      clear hd hdk hx ho hpp
      obtain ⟨W, hW⟩ : ∃ W, wr.alloc (.cells #[.int .i64 id, .string bd] 43) = W := ⟨_, rfl⟩
      have kW : Kp [] wr W := by rw [← hW]; exact (Kp.refl _ _).alloc _
      have hb : W.heap[wr.heap.size]? = some (.cells #[.int .i64 id, .string bd] 43 (0, 0)) := by rw [← hW]; exact heap_alloc_new wr _
      obtain ⟨p0, p1, _, _⟩ := rd_cells hb
      have hkW := hkp.next kW
      clear hb
      by_cases h1 : id < 0
      · have hr : Hid (res = false) := by
          have := HD.out
          simp only [idsB] at this
          rw [if_pos (.inl h1)] at this
          exact this.symm
        have d1 : decide (id < 0) = true := by simpa using h1
        go_wp2_with fail
        clear hW
        go_quiet ((go_at_call 27; exact Calls.quiet_of_same (idmay_any _ false (by simp; try omega) _)))
        go_wp2_with fail
        go_ret
        exact ⟨ret_bool hr.out.symm, hkW.drewN _⟩
      · have d1 : decide (id < 0) = false := by simpa using h1
        by_cases h2 : 99999 < id
        · have hr : Hid (res = false) := by
            have := HD.out
            simp only [idsB] at this
            rw [if_pos (.inr (.inl h2))] at this
            exact this.symm
          have d2 : decide (99999 < id) = true := by simpa using h2
          go_wp2_with fail
          clear hW
          go_quiet ((go_at_call 27; exact Calls.quiet_of_same (idmay_any _ false (by simp; try omega) _)))
          go_wp2_with fail
          go_ret
          exact ⟨ret_bool hr.out.symm, hkW.drewN _⟩
        · have d2 : decide (99999 < id) = false := by simpa using h2
          by_cases h3 : 0 < k
          · obtain ⟨_, y, hy1, hy2⟩ := HPP.out h3
            have d3 : decide ((0 : Int) < (k : Int)) = true := by simp; omega
            have i0 : (0 : Int) ≤ (k : Int) - 1 := by omega
            have i1 : (k : Int) - 1 < (D.length : Int) := by omega
            have i2 : ((k : Int) - 1).toNat = k - 1 := by omega
            have i3 : IntKind.i64.wrap ((k : Int) - 1) = (k : Int) - 1 := IntWalk.i64_in _ ⟨by omega, by omega⟩
            have hy3 := kW.cellv hy2 (by simp)
            have i4 : (0 : Int) < (k : Int) := by omega
            clear hy2
            by_cases h4 : y = id
            · have hr : Hid (res = false) := by
                have := HD.out
                simp only [idsB] at this
                rw [if_pos (.inr (.inr (by rw [hy1, h4])))] at this
                exact this.symm
              have d4 : (y == id) = true := by simpa using h4
              have Hy1 := hide hy1
              clear hy1 h4
              go_wp2_with fail
              clear hW
              go_quiet ((go_at_call 27; exact Calls.quiet_of_same (idmay_any _ true (by simp; try omega) _)))
              go_wp2_with fail
              go_ret
              exact ⟨ret_bool hr.out.symm, hkW.drewN _⟩
            · have hr : Hid (idsB (some id) (D.drop (k + 1)) = res) := by
                have := HD.out
                simp only [idsB] at this
                rw [if_neg (by rw [hy1]; simp; exact ⟨by omega, by omega, h4⟩)] at this
                exact this
              have d4 : (y == id) = false := by simpa using h4
              have Hy1 := hide hy1
              clear hy1 h4
              go_wp2_with fail
              clear hW
              go_quiet ((go_at_call 27; exact Calls.quiet_of_same (idmay_any _ true (by simp; try omega) _)))
              go_wp2_with fail
              go_roundw
              case rel => exact ⟨k + 1, by omega, by go_num, by rw [hpn.out]; exact hr.out, hkW.drewN _⟩
              case measure => simp [intOf]; omega
          · have ek : k = 0 := by omega
            subst ek
            have hr : Hid (idsB (some id) (D.drop (0 + 1)) = res) := by
              have := HD.out
              simp only [idsB, prevOf] at this
              rw [if_neg (by simp; omega)] at this
              exact this
            go_wp2_with fail
            clear hW
            go_quiet ((go_at_call 27; exact Calls.quiet_of_same (idmay_any _ true (by simp; try omega) _)))
            go_wp2_with fail
            go_roundw
            case rel => exact ⟨0 + 1, by omega, by go_num, by rw [hpn.out]; exact hr.out, hkW.drewN _⟩
            case measure => simp [intOf]; omega
    · have ek : k = D.length := by omega
      subst ek
      rw [List.drop_length] at hd
      have hd2 : true = res := by simpa [idsB] using hd
      have HD := hide hd2
      clear hd hd2
      go_wp2_with fail
      go_ret
      exact ⟨ret_bool HD.out, hkp⟩
end Go.Proofs.Ytpdoacfiiledcaa.Pak
