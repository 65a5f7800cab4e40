import Derived.Test.YtpdoacfiiledcaaGreatDoorV10
import Derived.Test.YtpdoacfiiledcaaGreatDoorV16
import Derived.Test.YtpdoacfiiledcaaGreatDoorV03
import Derived.Test.YtpdoacfiiledcaaGreatDoorV09
set_option linter.unusedVariables false
set_option maxRecDepth 8000
namespace Go.Proofs.YtpdoacfiiledcaaGreatDoor.Pak
open Go.RowKit Go.Proofs.YtpdoacfiiledcaaGreatDoor Go.Proofs.YtpdoacfiiledcaaGreatDoor.Spl SiftM

/-- Texts in the rising order of their ids: how many are ahead of an id, and whether one has it. -/
def aheadN (T : List Tx) (id : Nat) : Nat := (T.filter fun t => decide (t.1 < id)).length
theorem ahead_le (T : List Tx) (id : Nat) : aheadN T id ≤ T.length := List.length_filter_le _ _
theorem ahead_at : ∀ (T : List Tx), SortT T → ∀ (id i : Nat) (h : i < T.length), T[i].1 < id ↔ i < aheadN T id
  | [], _, _, i, h => by simp at h
  | t :: r, hs, id, i, h => by
    obtain ⟨h1, h2⟩ := List.pairwise_cons.1 hs
    unfold aheadN
    rw [List.filter_cons]
    by_cases ht : t.1 < id
    · rw [if_pos (by simpa using ht)]
      cases i with
      | zero => simp [ht]
      | succ i =>
        have ih := ahead_at r h2 id i (by simpa using h)
        unfold aheadN at ih
        simpa using ih
    · rw [if_neg (by simpa using ht)]
      have hn : r.filter (fun t => decide (t.1 < id)) = [] := by
        rw [List.filter_eq_nil_iff]
        intro u hu
        have := h1 u hu
        simp; omega
      rw [hn]
      cases i with
      | zero => simp [ht]
      | succ i =>
        have := h1 (r[i]'(by simpa using h)) (List.getElem_mem _)
        simp; omega
theorem ahead_has (T : List Tx) (hs : SortT T) (id : Nat) : id ∈ T.map Prod.fst ↔ ∃ h : aheadN T id < T.length, T[aheadN T id].1 = id := by
  constructor
  · intro h
    obtain ⟨t, ht, rfl⟩ := List.mem_map.1 h
    obtain ⟨i, hi, rfl⟩ := List.mem_iff_getElem.1 ht
    have h1 : ¬ i < aheadN T T[i].1 := fun h => by have := (ahead_at T hs T[i].1 i hi).2 h; omega
    have h2 : ∀ j (hj : j < i), j < aheadN T T[i].1 := fun j hj => by
      have hj' : j < T.length := by omega
      have := List.pairwise_iff_getElem.1 hs j i hj' hi hj
      exact (ahead_at T hs T[i].1 j hj').1 this
    have e : aheadN T T[i].1 = i := by
      rcases Nat.lt_trichotomy (aheadN T T[i].1) i with h | h | h
      · have := h2 _ h; omega
      · exact h
      · exact absurd h h1
    refine ⟨by omega, ?_⟩
    simp only [e]
  · rintro ⟨h, e⟩
    exact List.mem_map.2 ⟨_, List.getElem_mem h, e⟩

set_option maxHeartbeats 1000000 in
theorem gcmp_any (a id : Nat) (v : Value) (w : World) :
    Calls Tryz.prog 342 #[.agg #[.int .i64 (a : Int), v], .int .i64 (id : Int)] w fun e w' => e = .returned (.int .i64 (Lib.compareInt (a : Int) (id : Int))) ∧ Kp [] w w' := by
  go_enter Tryz.func342, Tryz.ntmps342
  go_wp2_with fail
  refine (Tryz.cmp_Compare_int (a : Int) (id : Int) _).mono ?_
  rintro e w1 ⟨rfl, rfl⟩
  go_wp2_with fail
  go_ret
  exact ⟨rfl, (Kp.refl _ _).alloc _⟩

theorem cmp_ge (a b : Int) (h : ¬ a < b) : 0 ≤ Lib.compareInt a b := by
  unfold Lib.compareInt
  rw [if_neg h]
  split <;> omega

set_option maxHeartbeats 2000000 in
theorem gsearch_any (B n id : Nat) (v : Value) (T : List Tx) (vs : List Value) (w : World) (h : TextsIs w B v T vs) (hT : T.length = n) (hs : SortT T) (hn : n ≤ 1000) :
    Calls Tryz.prog 341 #[v, .int .i64 (id : Int), .func (.func 342) #[] #[]] w fun e w' => e = .returned (.tuple #[.int .i64 (aheadN T id : Nat), .bool (decide (id ∈ T.map Prod.fst))]) ∧ Kp [] w w' := by
  obtain ⟨a, c, rfl, ha⟩ := owns_forms h.row
  rw [hT] at ha
  have hle := ahead_le T id
  have hat := ahead_at T hs id
  have hhas := ahead_has T hs id
  obtain ⟨m, hm⟩ : ∃ m, aheadN T id = m := ⟨_, rfl⟩
  rw [hm] at hle
  have hat' : ∀ i (h : i < T.length), T[i].1 < id ↔ i < m := by rw [← hm]; exact hat
  obtain ⟨r, hr⟩ : ∃ r, decide (id ∈ T.map Prod.fst) = r := ⟨_, rfl⟩
  have hyes : ∀ h : m < T.length, r = decide (T[m].1 = id) := by
    intro h
    rw [← hr]
    apply decide_eq_decide.2
    subst hm
    rw [hhas]
    exact ⟨fun ⟨_, e⟩ => e, fun e => ⟨h, e⟩⟩
  have hno : ¬ m < T.length → r = false := by
    intro h
    rw [← hr]
    subst hm
    simp only [decide_eq_false_iff_not]
    rw [hhas]
    rintro ⟨h', _⟩
    exact h h'
  rw [hm, hr]
  rw [hT] at hle
  have HT := hide h
  have HTL := hide hT
  have HAT := hide hat'
  have HYES := hide hyes
  have HNO := hide hno
  clear h hat hhas hat' hm hr hyes hno
  rw [hT]
  clear hT
  go_enter Tryz.func341, Tryz.ntmps341
  go_wp2_with fail
  go_loopw [9, 10, 11] (fun iv jv hv wr => ∃ (i j : Nat), i ≤ m ∧ m ≤ j ∧ j ≤ n ∧ iv = .int .i64 (i : Int) ∧ jv = .int .i64 (j : Int) ∧ Kp [] w wr) (fun iv jv _ _ => (intOf jv).toNat - (intOf iv).toNat)
  case atStart => exact ⟨0, n, by omega, by omega, by omega, rfl, rfl, Kp.refl _ _⟩
  case round =>
    obtain ⟨i, j, hi, hj, hjn, rfl, rfl, hkp⟩ := hrel
    by_cases hij : i < j
    · obtain ⟨g, rfl⟩ := ha (by omega)
      obtain ⟨hh, hhh⟩ : ∃ hh, (i + j) / 2 = hh := ⟨_, rfl⟩
      have hhn : hh < n := by omega
      have hd := HT.out.kp0 hkp
      have hhT : hh < T.length := by rw [HTL.out]; exact hhn
      have hhv : hh < vs.length := by rw [hd.len]; exact hhT
      obtain ⟨q0, q1⟩ := hd.cells hh hhT hhv
      have hlt := HAT.out hh hhT
      obtain ⟨di, hdi⟩ : ∃ di, T[hh].1 = di := ⟨_, rfl⟩
      rw [hdi] at q0 hlt
      have hc1 : IntKind.u64.wrap ((i : Int) + (j : Int)) = ((i + j : Nat) : Int) := by rw [← Int.natCast_add]; exact wrap_u64 _ (by omega)

      go_wp2_with fail
      refine (gcmp_any di id _ _).mono ?_
      rintro e w1 ⟨rfl, k1⟩
      have k2 := hkp.next k1
      have hz := k1.size
      by_cases hdl : di < id
      · have hcv : Lib.compareInt (di : Int) (id : Int) = -1 := by unfold Lib.compareInt; rw [if_pos (by omega)]
        rw [hcv]
        have hm2 : hh < m := hlt.1 hdl
        clear hcv hlt hd q0 q1
        go_wp2_with fail
        go_roundw
        case rel => exact ⟨hh + 1, j, by omega, by omega, by omega, by go_num, rfl, k2⟩
        case measure => simp [intOf]; omega
      · obtain ⟨cv, hcv, hcp⟩ : ∃ cv : Int, Lib.compareInt (di : Int) (id : Int) = cv ∧ 0 ≤ cv := ⟨_, rfl, cmp_ge _ _ (by omega)⟩
        rw [hcv]
        have hm2 : ¬ hh < m := fun h => hdl (hlt.2 h)
        clear hcv hlt hd q0 q1
        go_wp2_with fail
        go_roundw
        case rel => exact ⟨i, hh, by omega, by omega, by omega, rfl, by go_num, k2⟩
        case measure => simp [intOf]; omega
    · have him : i = m := by omega
      have hjm : j = m := by omega
      subst hjm
      subst him
      by_cases hlt : i < n
      · obtain ⟨g, rfl⟩ := ha (by omega)
        have hd := HT.out.kp0 hkp
        have hhT : i < T.length := by rw [HTL.out]; exact hlt
        have hhv : i < vs.length := by rw [hd.len]; exact hhT
        obtain ⟨q0, q1⟩ := hd.cells i hhT hhv
        have hy := HYES.out hhT
        obtain ⟨di, hdi⟩ : ∃ di, T[i].1 = di := ⟨_, rfl⟩
        rw [hdi] at q0 hy
        have l0 : decide ((i : Int) < (i : Int)) = false := by simp
        clear hd
        go_wp2_with fail
        refine (gcmp_any di id _ _).mono ?_
        rintro e w1 ⟨rfl, k1⟩
        have k2 := hkp.next k1
        have hcv : (Lib.compareInt (di : Int) (id : Int) == 0) = r := by
          rw [hy]
          unfold Lib.compareInt
          by_cases h1 : (di : Int) < (id : Int)
          · rw [if_pos h1]
            have : ¬ di = id := by omega
            simp [this]
          · rw [if_neg h1]
            by_cases h2 : di = id
            · simp [h2]
            · have : (id : Int) < (di : Int) := by omega
              simp [h2, this]
        generalize Lib.compareInt (di : Int) (id : Int) = cv at hcv ⊢
        clear hy q0 q1
        go_wp2_with fail
        go_ret2
        exact ⟨rfl, k2⟩
      · have hr := HNO.out (by rw [HTL.out]; exact hlt)
        have l0 : decide ((i : Int) < (i : Int)) = false := by simp
        have l1 : decide ((i : Int) < (n : Int)) = false := by simp; omega
        go_wp2_with fail
        go_ret2
        rw [hr]
        exact ⟨rfl, hkp⟩
end Go.Proofs.YtpdoacfiiledcaaGreatDoor.Pak

set_option linter.unusedVariables false
set_option maxRecDepth 4000
namespace Go.Proofs.YtpdoacfiiledcaaGreatDoor.Pak
open Go.RowKit Go.Proofs.YtpdoacfiiledcaaGreatDoor Go.Proofs.YtpdoacfiiledcaaGreatDoor.Spl SiftM

/-- A doc, with the list of its words, and whether it is dead. -/
abbrev Dx := Nat × Value × Bool
def tx3d (xs : List Dx) : List Value := xs.flatMap fun x => [Value.int .i64 (x.1 : Int), x.2.1, .bool x.2.2]
theorem tx3d_get : ∀ (xs : List Dx) (i : Nat) (h : i < xs.length), (tx3d xs)[i * 3]? = some (.int .i64 (xs[i].1 : Int)) ∧ (tx3d xs)[i * 3 + 1]? = some xs[i].2.1 ∧ (tx3d xs)[i * 3 + 2]? = some (.bool xs[i].2.2)
  | x :: r, 0, h => by simp [tx3d]
  | x :: r, i + 1, h => by
    have ih := tx3d_get r i (by simpa using h)
    have e : tx3d (x :: r) = .int .i64 (x.1 : Int) :: x.2.1 :: .bool x.2.2 :: tx3d r := by simp [tx3d]
    rw [e, show (i + 1) * 3 = i * 3 + 3 by omega, show i * 3 + 3 + 1 = i * 3 + 1 + 3 by omega, show i * 3 + 3 + 2 = i * 3 + 2 + 3 by omega]
    simpa using ih
theorem tx3d_false (xs : List (Nat × Value)) : tx3d (xs.map fun x => (x.1, x.2, false)) = tx3 xs := by
  induction xs with
  | nil => rfl
  | cons x r ih => simp [tx3d, tx3] at ih ⊢; exact ih
/-- A doc goes: its mark is set. -/
theorem tx3d_set (xs : List Dx) (i : Nat) (h : i < xs.length) (b : Bool) : tx3d (xs.set i (xs[i].1, xs[i].2.1, b)) = (tx3d xs).set (i * 3 + 2) (.bool b) := by
  induction xs generalizing i with
  | nil => simp at h
  | cons x r ih =>
    cases i with
    | zero => simp [tx3d]
    | succ i =>
      have := ih i (by simpa using h)
      have e : ∀ (y : Dx) (s : List Dx), tx3d (y :: s) = .int .i64 (y.1 : Int) :: y.2.1 :: .bool y.2.2 :: tx3d s := fun y s => by simp [tx3d]
      simp only [List.set_cons_succ, List.getElem_cons_succ, e]
      rw [show (i + 1) * 3 = (i * 3 + 2) + 1 by omega]
      simp only [List.set_cons_succ]
      rw [this]

/-- The document's docs, dead ones among them. -/
structure DocsX (w : World) (base : Nat) (v : Value) (T : List Tx) (vs : List Value) : Prop where
  len : vs.length = T.length
  row : ∃ xs : List Dx, xs.length = T.length ∧ w.ownsRow base 266 3 v T.length (tx3d xs) ∧ ∀ i (h : i < T.length) (h2 : i < xs.length) (h3 : i < vs.length), xs[i].1 = T[i].1 ∧ xs[i].2.1 = vs[i]
  each : ∀ i (h : i < T.length) (h2 : i < vs.length), w.ownsRow base 9 1 vs[i] T[i].2.length (strV T[i].2)
theorem DocsX.forms {w : World} {base : Nat} {v : Value} {T : List Tx} {vs : List Value} (h : DocsX w base v T vs) : ∃ a c, v = .slice a T.length c ∧ (0 < T.length → ∃ g, a = some ⟨g, 0, none⟩) := by
  obtain ⟨xs, _, hr, _⟩ := h.row
  exact owns_forms hr
theorem DocsX.lt {w : World} {base : Nat} {v : Value} {T : List Tx} {vs : List Value} (h : DocsX w base v T vs) (g : Nat) (hg : v.ownBlock = some g) : base ≤ g ∧ g < w.heap.size := by
  obtain ⟨xs, _, hr, _⟩ := h.row
  exact hr.lt g hg
theorem DocsX.kp0 {w w' : World} {base : Nat} {v : Value} {T : List Tx} {vs : List Value} (h : DocsX w base v T vs) (k : Kp [] w w') : DocsX w' base v T vs := by
  obtain ⟨xs, h1, hr, h2⟩ := h.row
  exact ⟨h.len, ⟨xs, h1, k.owns hr (by simp), h2⟩, fun i h1 h2 => k.owns (h.each i h1 h2) (by simp)⟩
theorem DocsX.kb5 {w w' : World} {base b : Nat} {v : Value} {T : List Tx} {vs : List Value} (h : DocsX w base v T vs) (k : Kb 5 [] b w w') : DocsX w' base v T vs := by
  obtain ⟨xs, h1, hr, h2⟩ := h.row
  exact ⟨h.len, ⟨xs, h1, k.owns hr (by decide) (by simp), h2⟩, fun i h1 h2 => k.owns (h.each i h1 h2) (by decide) (by simp)⟩
theorem DocsX.drew {w : World} {base : Nat} {v : Value} {T : List Tx} {vs : List Value} (h : DocsX w base v T vs) : DocsX w.drew base v T vs := h.kp0 ((Kp.refl [] w).drewN 1)
theorem DocsX.cells {w : World} {base g cap n : Nat} {T : List Tx} {vs : List Value} (h : DocsX w base (.slice (some ⟨g, 0, none⟩) n cap) T vs) (i : Nat) (hi : i < T.length) (h2 : i < vs.length) :
    w.cell? ⟨g, i * 3, none⟩ = some (.int .i64 (T[i].1 : Int)) ∧ w.cell? ⟨g, i * 3 + 1, none⟩ = some vs[i] ∧ ∃ b, w.cell? ⟨g, i * 3 + 2, none⟩ = some (.bool b) := by
  obtain ⟨xs, h1, hr, hx⟩ := h.row
  have hg := tx3d_get xs i (by omega)
  have ea : ∀ j, (⟨g, 0, none⟩ : Addr).add j = ⟨g, j, none⟩ := by intro j; unfold Addr.add; split <;> simp_all
  obtain ⟨e1, e2⟩ := hx i hi (by omega) h2
  have c0 := hr.cells (g := g) rfl _ _ hg.1
  have c1 := hr.cells (g := g) rfl _ _ hg.2.1
  have c2 := hr.cells (g := g) rfl _ _ hg.2.2
  rw [ea] at c0 c1 c2
  rw [e1] at c0
  rw [e2] at c1
  exact ⟨c0, c1, _, c2⟩
theorem DocsIs.docsX {w : World} {base : Nat} {v : Value} {T : List Tx} {vs : List Value} (h : DocsIs w base v T vs) : DocsX w base v T vs := by
  refine ⟨h.len, ⟨((T.map Prod.fst).zip vs).map fun x => (x.1, x.2, false), by simp [h.len], by rw [tx3d_false]; exact h.row, fun i h1 h2 h3 => by simp⟩, h.each⟩
end Go.Proofs.YtpdoacfiiledcaaGreatDoor.Pak

