import Derived.Test.YtpdoacfiiledcaaSplitD
namespace Go.Proofs.Ytpdoacfiiledcaa
open Go.RowKit SiftM
set_option linter.unusedVariables false

set_option maxHeartbeats 400000 in
theorem words_ok (s : ByteArray) (w : World) (hs : s.size ≤ 120) :
    Calls Try.prog 6 #[.string s] w fun e w' => ∃ v, e = .returned (.tuple #[v, .int .i64 0]) ∧ w'.ownsRow w.heap.size 9 1 v (sp s.size s.data.toList).length (strV (sp s.size s.data.toList)) ∧ Below w.heap.size w w' := by
  go_enter Try.func6, Try.ntmps6
  go_wp2_with fail
  refine (splitW_any _ _ (by omega)).mono ?_
  rintro e w1 ⟨v, rfl, hown, hb⟩
  go_wp2_with fail
  go_ret2
  exact ⟨_, rfl, hown, hb⟩

set_option maxHeartbeats 400000 in
theorem words_long (s : ByteArray) (w : World) (hs : 120 < s.size) :
    Calls Try.prog 6 #[.string s] w fun e w' => e = .returned (.tuple #[.slice none 0 0, .int .i64 4]) ∧ w' = w := by
  go_enter Try.func6, Try.ntmps6
  go_wp2_with fail
  go_ret2
  exact ⟨rfl, rfl⟩

set_option maxHeartbeats 400000 in
theorem same_none (a b : Option Addr) (ca cb : Nat) (w : World) :
    Calls Try.prog 7 #[.slice a 0 ca, .slice b 0 cb] w fun e w' => e = .returned (.bool true) ∧ Below w.heap.size w w' := by
  go_enter Try.func7, Try.ntmps7
  go_wp2_with fail
  refine wp_loop_rounds 1 ?_
  rw [rounds_succ]
  go_wp2_with fail
  go_ret
  exact ⟨rfl, Below.refl _ _⟩

theorem bel_drewN (w : World) (n : Nat) : Below w.heap.size w (w.drewN n) := ⟨rfl, rfl, rfl, Nat.le_refl _, fun _ _ => rfl⟩

set_option maxHeartbeats 400000 in
set_option maxRecDepth 100000 in
theorem same_true (ga gb n ca cb : Nat) (X : Nat → ByteArray) (w : World) (hn : n ≤ 1000)
    (ha : ∀ j, j < n → w.cell? ⟨ga, j, none⟩ = some (.string (X j))) (hb : ∀ j, j < n → w.cell? ⟨gb, j, none⟩ = some (.string (X j))) :
    Calls Try.prog 7 #[.slice (some ⟨ga, 0, none⟩) n ca, .slice (some ⟨gb, 0, none⟩) n cb] w fun e w' => e = .returned (.bool true) ∧ Below w.heap.size w w' := by
  go_enter Try.func7, Try.ntmps7
  go_wp2_with fail
  go_loopw [5] (fun i wr => ∃ k q : Nat, k ≤ n ∧ i = .int .i64 k ∧ wr = w.drewN q) (fun i _ => n - (intOf i).toNat)
  case atStart => exact ⟨0, 0, Nat.zero_le _, rfl, rfl⟩
  case round =>
    obtain ⟨k, q, hk, rfl, rfl⟩ := hrel
    by_cases hlt : k < n
    · have h1 := ha k hlt
      have h2 := hb k hlt
      have h3 : (k : Int) < (n : Int) := by omega
      have h4 : (0 : Int) ≤ (k : Int) := by omega
      go_wp2_with fail
      go_quiet (fail)
      go_wp2_with fail
      exact ⟨⟨k + 1, q + nq, by omega, by go_num, rfl⟩, by simp [intOf]; omega⟩
    · go_wp2_with fail
      go_ret
      exact ⟨rfl, bel_drewN _ _⟩
theorem owns_forms {w : World} {base size n : Nat} {e : TypeId} {v : Value} {xs : List Value} (h : w.ownsRow base e size v n xs) : ∃ a cap, v = .slice a n cap ∧ (0 < n → ∃ g, a = some ⟨g, 0, none⟩) := by
  rcases h.2 with ⟨rfl, rfl⟩ | ⟨g, cap, cur, rfl, _⟩
  · exact ⟨_, _, rfl, fun h => by omega⟩
  · exact ⟨_, _, rfl, fun _ => ⟨g, rfl⟩⟩
theorem owns_cells {w : World} {base n g cap : Nat} {l : List (List UInt8)} (h : w.ownsRow base 9 1 (.slice (some ⟨g, 0, none⟩) n cap) n (strV l)) (hl : l.length = n) :
    ∀ j, j < n → w.cell? ⟨g, j, none⟩ = some (.string ⟨(l.getD j []).toArray⟩) := by
  intro j hj
  rw [h.cellAt j (by omega)]
  simp [strV, List.getD_eq_getElem?_getD, List.getElem?_eq_getElem (by omega : j < l.length)]

theorem same_owned (va vb : Value) (A B : Nat) (l : List (List UInt8)) (w : World) (hn : l.length ≤ 1000)
    (ha : w.ownsRow A 9 1 va l.length (strV l)) (hb : w.ownsRow B 9 1 vb l.length (strV l)) :
    Calls Try.prog 7 #[va, vb] w fun e w' => e = .returned (.bool true) ∧ Below w.heap.size w w' := by
  obtain ⟨a, ca, rfl, fa⟩ := owns_forms ha
  obtain ⟨b, cb, rfl, fb⟩ := owns_forms hb
  by_cases h0 : l.length = 0
  · rw [h0]; exact same_none _ _ _ _ _
  · obtain ⟨ga, rfl⟩ := fa (by omega)
    obtain ⟨gb, rfl⟩ := fb (by omega)
    exact same_true ga gb l.length ca cb (fun j => ⟨(l.getD j []).toArray⟩) w hn (owns_cells ha rfl) (owns_cells hb rfl)

theorem shown_int (s : ByteArray) (h : Int) (w : World) (hl : s.size ≤ 100) (h0 : 0 ≤ h) (hh : h ≤ 1099511627776) :
    Calls Try.prog 14 #[.string s, .int .i64 h] w fun e w' => e = .returned (.string ⟨(shownL h.toNat 0 s.data.toList).toArray⟩) ∧ Below w.heap.size w w' := by
  obtain ⟨n, rfl⟩ := Int.eq_ofNat_of_zero_le h0
  exact shown_any s n w hl (by omega)
end Go.Proofs.Ytpdoacfiiledcaa
