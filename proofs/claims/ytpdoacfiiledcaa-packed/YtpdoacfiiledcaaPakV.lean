import Derived.Test.YtpdoacfiiledcaaPakU
namespace Go.Proofs.Ytpdoacfiiledcaa.Pak
open Go.RowKit Go.Proofs.Ytpdoacfiiledcaa SiftM
set_option linter.unusedVariables false

abbrev Tx := Nat × List (List UInt8)
def mayB : List Tx → Int → Bool
  | [], c => c == 0
  | t :: r, c => if 120 < lenF t.2 then false else mayB r (c - t.2.length)

theorem tx2_get : ∀ (xs : List (Nat × Value)) (i : Nat) (h : i < xs.length), (tx2 xs)[i * 2]? = some (.int .i64 (xs[i].1 : Int)) ∧ (tx2 xs)[i * 2 + 1]? = some xs[i].2
  | x :: r, 0, h => by simp [tx2]
  | x :: r, i + 1, h => by
    have ih := tx2_get r i (by simpa using h)
    have e : tx2 (x :: r) = .int .i64 (x.1 : Int) :: x.2 :: tx2 r := by simp [tx2]
    rw [e, show (i + 1) * 2 = i * 2 + 2 by omega, show i * 2 + 2 + 1 = i * 2 + 1 + 2 by omega]
    simpa using ih
/-- The cells of a list of texts. -/
theorem TextsIs.cells {w : World} {base g cap n : Nat} {T : List Tx} {vs : List Value} (h : TextsIs w base (.slice (some ⟨g, 0, none⟩) n cap) T vs) (i : Nat) (hi : i < T.length) (h2 : i < vs.length) :
    w.cell? ⟨g, i * 2, none⟩ = some (.int .i64 (T[i].1 : Int)) ∧ w.cell? ⟨g, i * 2 + 1, none⟩ = some vs[i] := by
  have hz : i < ((T.map Prod.fst).zip vs).length := by simp; omega
  have hg := tx2_get ((T.map Prod.fst).zip vs) i hz
  have ea : ∀ j, (⟨g, 0, none⟩ : Addr).add j = ⟨g, j, none⟩ := by intro j; unfold Addr.add; split <;> simp_all
  have c0 := h.row.cells (g := g) rfl _ _ hg.1
  have c1 := h.row.cells (g := g) rfl _ _ hg.2
  rw [ea] at c0 c1
  simp at c0 c1
  exact ⟨c0, c1⟩
theorem TextsIs.kp {S : List Nat} {w w' : World} {base : Nat} {v : Value} {T : List Tx} {vs : List Value} (h : TextsIs w base v T vs) (k : Kp S w w') (hv : ∀ x ∈ S, v.ownBlock ≠ some x) (hvs : ∀ i (h : i < vs.length), ∀ x ∈ S, vs[i].ownBlock ≠ some x) : TextsIs w' base v T vs :=
  ⟨h.len, k.owns h.row (fun g hg hx => hv g hx hg), fun i h1 h2 => k.owns (h.each i h1 h2) (fun g hg hx => hvs i h2 g hx hg), h.apart⟩
theorem TextsIs.kp0 {w w' : World} {base : Nat} {v : Value} {T : List Tx} {vs : List Value} (h : TextsIs w base v T vs) (k : Kp [] w w') : TextsIs w' base v T vs := h.kp k (by simp) (by simp)

set_option maxHeartbeats 800000 in
set_option maxRecDepth 100000 in
theorem maybe_any (B c : Nat) (v : Value) (T : List Tx) (vs : List Value) (w : World) (h : TextsIs w B v T vs) (hn : T.length ≤ 1000) (hc : c ≤ 1000000000) (hs : ∀ t ∈ T, t.2.length ≤ 1000 ∧ sumL t.2 ≤ 1000000) :
    Calls Try.prog 39 #[v, .int .i64 c] w fun e w' => e = .returned (.bool (mayB T c)) ∧ Kp [] w w' := by
  obtain ⟨a, cap, rfl, ha⟩ := owns_forms h.row
  obtain ⟨res, hres⟩ : ∃ res, mayB T c = res := ⟨_, rfl⟩
  rw [hres]
  have HR := hide hres
  have HH := hide h
  have HS := hide hs
  clear h hs hres
  go_enter Try.func39, Try.ntmps39
  go_wp2_with fail
  go_loopw [1, 9] (fun cv iv wr => ∃ (k : Nat) (c' : Int), k ≤ T.length ∧ iv = .int .i64 k ∧ cv = .int .i64 c' ∧ mayB (T.drop k) c' = res ∧ c' ≤ 1000000000 ∧ -(1000 * (k : Int)) ≤ c' ∧ Kp [] w wr) (fun _ iv _ => T.length - (intOf iv).toNat)
  case atStart => exact ⟨0, c, by omega, rfl, rfl, HR.out, by omega, by omega, Kp.refl _ _⟩
  case round =>
    obtain ⟨k, c', hk, rfl, rfl, hd, hc1, hc2, hkp⟩ := hrel
    by_cases hlt : k < T.length
    · obtain ⟨g, rfl⟩ := ha (by omega)
      have hh := HH.out.kp0 hkp
      have hkv : k < vs.length := by rw [hh.len]; exact hlt
      obtain ⟨q0, q1⟩ := hh.cells k hlt hkv
      have he := hh.each k hlt hkv
      obtain ⟨av, cv, ev, _⟩ := owns_forms he
      rw [ev] at q1 he
      have hsk := HS.out T[k] (List.getElem_mem hlt)
      have hdk : T.drop k = T[k] :: T.drop (k + 1) := List.drop_eq_getElem_cons hlt
      rw [hdk] at hd
      obtain ⟨t, ht⟩ : ∃ t, T[k] = t := ⟨_, rfl⟩
      rw [ht] at q0 q1 he hsk hd
      obtain ⟨id, ws⟩ := t
      simp only at q0 q1 he hsk
      obtain ⟨W, hW⟩ : ∃ W, wr.alloc (.cells #[.int .i64 (id : Int), .slice av ws.length cv] 52) = W := ⟨_, rfl⟩
      have kW : Kp [] wr W := by rw [← hW]; exact (Kp.refl _ _).alloc _
      have hL := length_any B (.slice av ws.length cv) ws W (kW.owns he (by simp)) (by omega) (by omega)
      have hb : W.heap[wr.heap.size]? = some (.cells #[.int .i64 (id : Int), .slice av ws.length cv] 52 (0, 0)) := by rw [← hW]; exact heap_alloc_new wr _
      obtain ⟨p0, p1, _, _⟩ := rd_cells hb
      have HD := hide hd
      have HL := hide hL
      have HE := hide he
      have hkW := hkp.next kW
      clear hd hL he hdk ht ev hb hh
      go_wp2_with fail
      clear hW
      refine HL.out.mono ?_
      rintro e w1 ⟨rfl, rfl⟩
      by_cases hl : 120 < lenF ws
      · have hdd : Hid (false = res) := by
          have := HD.out
          simp only [mayB] at this
          rw [if_pos hl] at this
          exact this
        generalize lenF ws = x at *
        go_wp2_with fail
        go_ret
        exact ⟨ret_bool hdd.out, hkW⟩
      · have hdd : Hid (mayB (T.drop (k + 1)) (c' - (ws.length : Int)) = res) := by
          have := HD.out
          simp only [mayB] at this
          rw [if_neg hl] at this
          exact this
        generalize lenF ws = x at *
        go_wp2_with fail
        go_roundw
        case rel => exact ⟨k + 1, c' - (ws.length : Int), by omega, by go_num, by go_num, hdd.out, by omega, by omega, hkW⟩
        case measure => simp [intOf]; omega
    · have ek : k = T.length := by omega
      subst ek
      rw [List.drop_length] at hd
      have HD := hide hd
      clear hd
      go_wp2_with fail
      go_ret
      exact ⟨ret_bool (by rw [← HD.out]; rfl), hkp⟩
end Go.Proofs.Ytpdoacfiiledcaa.Pak
