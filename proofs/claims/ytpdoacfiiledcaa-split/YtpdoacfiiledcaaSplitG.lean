import Derived.Test.YtpdoacfiiledcaaSplitF
import Derived.OpenShut
namespace Go.Proofs.Ytpdoacfiiledcaa
open Go.RowKit SiftM
set_option linter.unusedVariables false

theorem cell_lt {w : World} {a : Addr} {v : Value} (h : w.cell? a = some v) : a.block < w.heap.size := by
  rcases Nat.lt_or_ge a.block w.heap.size with h' | h'
  · exact h'
  · simp [World.cell?, Array.getElem?_eq_none h'] at h

set_option maxHeartbeats 400000 in
theorem made_zero (a : Option Addr) (cap : Nat) (w : World) :
    Calls Try.prog 5 #[.slice a 0 cap] w fun e w' => e = .returned (.tuple #[.string ⟨#[]⟩, .slice none 0 0]) ∧ Below w.heap.size w w' := by
  go_enter Try.func5, Try.ntmps5
  go_wp2_with fail
  refine (voc_any _).mono ?_
  rintro e w1 ⟨rfl, rfl⟩
  go_wp2_with fail
  refine wp_loop_rounds 1 ?_
  rw [rounds_succ]
  go_wp2_with fail
  go_ret2
  exact ⟨rfl, W2_below w⟩

/-- A list of numbers that came in. -/
def Row (w : World) (a : Option Addr) (len cap : Nat) (zs : List Int) : Prop :=
  (a = none ∧ len = 0 ∧ cap = 0 ∧ zs = []) ∨
  ∃ x, a = some x ∧ len ≤ cap ∧ cap ≤ maxLen ∧ zs.length = cap ∧ (∀ i, i < zs.length → w.cell? (x.add i) = some (.int .i64 (zs.getD i 0))) ∧ ∀ n ∈ zs, (Lit.int .i64 n).wf = true

theorem wf_bd (n : Int) (h : (Lit.int .i64 n).wf = true) : -9223372036854775808 ≤ n ∧ n ≤ 9223372036854775807 := by
  exact bounds_i64 h

theorem made_row (a : Option Addr) (len cap : Nat) (zs : List Int) (w : World) (h : Row w a len cap zs) :
    Calls Try.prog 5 #[.slice a len cap] w fun e w' => ∃ (v : Value) (bs : ByteArray) (l : List (List UInt8)), e = .returned (.tuple #[.string bs, v]) ∧ Hid (sp bs.size bs.data.toList = l) ∧ bs.size ≤ 104 ∧ l.length ≤ 8 ∧
      w'.ownsRow w.heap.size 9 1 v l.length (strV l) ∧ Below w.heap.size w w' := by
  have key : ∀ k, k ≤ 8 → Hid (sp (ByteArray.mk (joinP (madeP zs k)).toArray).size (ByteArray.mk (joinP (madeP zs k)).toArray).data.toList = madeW zs k) := by
    intro k hk
    show sp (joinP (madeP zs k)).toArray.size (joinP (madeP zs k)).toArray.toList = _
    rw [List.size_toArray]
    exact made_split zs k _ (Nat.le_refl _)
  by_cases h0 : len = 0
  · subst h0
    refine (made_zero a cap w).mono ?_
    rintro e w' ⟨rfl, hb⟩
    exact ⟨_, _, [], rfl, key 0 (by omega), by decide, by decide, World.ownsRow_nil _ _ _ _, hb⟩
  · rcases h with ⟨_, rfl, _⟩ | ⟨x, rfl, hl, hm, hz, hcell, hwf⟩
    · exact absurd rfl h0
    · have hc := hcell 0 (by omega)
      obtain ⟨b, off, spot⟩ := x
      have hspot : spot = none := by simpa [Addr.add] using World.cell?_spot hc
      subst hspot
      have hb := cell_lt hc
      unfold maxLen at hm
      refine (made_any b off len cap zs w (by omega) (by simpa [Addr.add] using hb) (fun j hj => by have hj2 := hcell j (by omega); by_cases e : j = 0 <;> simpa [Addr.add, e] using hj2) ?_).mono ?_
      · intro j
        by_cases hj : j < zs.length
        · exact wf_bd _ (hwf _ (getD_mem _ _ _ hj))
        · rw [List.getD_eq_getElem?_getD, List.getElem?_eq_none (by omega)]; simp
      · rintro e w' ⟨v, rfl, hown, hbel⟩
        refine ⟨v, _, madeW zs (min len 8), rfl, key _ (by omega), made_le zs _ (by omega), by rw [madeW_len]; omega, ?_, hbel⟩
        rw [madeW_len]
        exact ⟨hown.1, hown.2.imp id fun ⟨g, cap, cur, h1, h2, h3⟩ => ⟨g, cap, cur, h1, by omega, h3⟩⟩

set_option maxHeartbeats 400000 in
set_option maxRecDepth 100000 in
theorem split_law (a : Option Addr) (len cap : Nat) (zs : List Int) (w : World) (h : Row w a len cap zs) :
    Calls Try.prog 3 #[.slice a len cap] w fun e w' => e = .returned (.bool true) ∧ Below w.heap.size w w' := by
  go_enter Try.func3, Try.ntmps3
  go_wp2_with fail
  refine (made_row a len cap zs _ h).mono ?_
  rintro e w1 ⟨v, bs, l, rfl, hsp, hbs, hl8, hown, hb⟩
  clear h
  have hz1 := hb.size
  go_wp2_with fail
  refine (words_ok bs _ (by omega)).mono ?_
  rintro e w2 ⟨v2, rfl, hown2, hb2⟩
  rw [hsp.out] at hown2
  have hz2 := hb2.size
  have hown1 := owns_below hown hb2
  go_wp2_with fail
  refine (same_owned v2 v _ _ l _ (by omega) hown2 hown1).mono ?_
  rintro e w3 ⟨rfl, hb3⟩
  have hb4 : Below w.heap.size w w3 := (hb.trans (hb2.mono hz1)).trans (hb3.mono (by omega))
  clear hown hown1 hown2 hb hb2 hb3 hsp
  go_wp2_with fail
  go_loop [8] (fun o => ∃ s : ByteArray, o = .string s ∧ s.size ≤ 1000) (fun o => match o with | .string s => 1001 - s.size | _ => 0)
  case atStart => exact ⟨bs, rfl, by omega⟩
  case round =>
    obtain ⟨s, rfl, hs⟩ := hrel
    by_cases hlt : s.size ≤ 120
    · go_wp2_with fail
      have e2 : (s ++ (⟨#[32, 120]⟩ : ByteArray)).size = s.size + 2 := by rw [ByteArray.size_append]; rfl
      exact ⟨⟨_, rfl, by omega⟩, by show 1001 - (s ++ (⟨#[32, 120]⟩ : ByteArray)).size < 1001 - s.size; omega⟩
    · go_wp2_with fail
      refine (words_long s _ (by omega)).mono ?_
      rintro e w5 ⟨rfl, rfl⟩
      go_wp2_with fail
      go_ret
      exact ⟨rfl, hb4⟩
end Go.Proofs.Ytpdoacfiiledcaa
