import Derived.Test.YtnffagpdnklnkaaGreatDoorV12
import Derived.Test.YtnffagpdnklnkaaGreatDoorV17
import Derived.Test.YtnffagpdnklnkaaGreatDoorV05
set_option linter.unusedVariables false
set_option linter.unusedSimpArgs false
set_option maxRecDepth 8000
namespace Go.Proofs.YtnffagpdnklnkaaGreatDoor.Pak
open Go.RowKit Go.Proofs.YtnffagpdnklnkaaGreatDoor Go.Proofs.YtnffagpdnklnkaaGreatDoor.Spl SiftM
/-- Texts in the rising order of their ids: how many are ahead of an id, and whether one has it. -/
def aheadN (T : List Tx) (id : Nat) : Nat := (T.filter fun t => decide (t.1 < id)).length
theorem ahead_le (T : List Tx) (id : Nat) : aheadN T id ≤ T.length := List.length_filter_le _ _
theorem ahead_at : ∀ (T : List Tx), SortT T → ∀ (id i : Nat) (h : i < T.length), T[i].1 < id ↔ i < aheadN T id
  | [], _, _, i, h => by simp at h
  | t :: r, hs, id, i, h => by
    obtain ⟨h1, h2⟩ := List.pairwise_cons.1 hs
    unfold aheadN
    rw [List.filter_cons]
    by_cases ht : t.1 < id
    · rw [if_pos (by simpa using ht)]
      cases i with
      | zero => simp [ht]
      | succ i =>
        have ih := ahead_at r h2 id i (by simpa using h)
        unfold aheadN at ih
        simpa using ih
    · rw [if_neg (by simpa using ht)]
      have hn : r.filter (fun t => decide (t.1 < id)) = [] := by
        rw [List.filter_eq_nil_iff]
        intro u hu
        have := h1 u hu
        simp; omega
      rw [hn]
      cases i with
      | zero => simp [ht]
      | succ i =>
        have := h1 (r[i]'(by simpa using h)) (List.getElem_mem _)
        simp; omega
theorem ahead_has (T : List Tx) (hs : SortT T) (id : Nat) : id ∈ T.map Prod.fst ↔ ∃ h : aheadN T id < T.length, T[aheadN T id].1 = id := by
  constructor
  · intro h
    obtain ⟨t, ht, rfl⟩ := List.mem_map.1 h
    obtain ⟨i, hi, rfl⟩ := List.mem_iff_getElem.1 ht
    have h1 : ¬ i < aheadN T T[i].1 := fun h => by have := (ahead_at T hs T[i].1 i hi).2 h; omega
    have h2 : ∀ j (hj : j < i), j < aheadN T T[i].1 := fun j hj => by
      have hj' : j < T.length := by omega
      have := List.pairwise_iff_getElem.1 hs j i hj' hi hj
      exact (ahead_at T hs T[i].1 j hj').1 this
    have e : aheadN T T[i].1 = i := by
      rcases Nat.lt_trichotomy (aheadN T T[i].1) i with h | h | h
      · have := h2 _ h; omega
      · exact h
      · exact absurd h h1
    refine ⟨by omega, ?_⟩
    simp only [e]
  · rintro ⟨h, e⟩
    exact List.mem_map.2 ⟨_, List.getElem_mem h, e⟩

set_option maxHeartbeats 1000000 in
theorem gcmp_any (a id : Nat) (v : Value) (w : World) :
    Calls Tryz.prog 186 #[.agg #[.int .i64 (a : Int), v], .int .i64 (id : Int)] w fun e w' => e = .returned (.int .i64 (Lib.compareInt (a : Int) (id : Int))) ∧ Kp [] w w' := by
  go_enter Tryz.func186, Tryz.ntmps186
  go_wp2_with fail
  refine (Tryz.cmp_Compare_int (a : Int) (id : Int) _).mono ?_
  rintro e w1 ⟨rfl, rfl⟩
  go_wp2_with fail
  go_ret
  exact ⟨rfl, (Kp.refl _ _).alloc _⟩

theorem cmp_ge (a b : Int) (h : ¬ a < b) : 0 ≤ Lib.compareInt a b := by
  unfold Lib.compareInt
  rw [if_neg h]
  split <;> omega

set_option maxHeartbeats 2000000 in
theorem gsearch_any (B n id : Nat) (v : Value) (T : List Tx) (vs : List Value) (w : World) (h : TextsIs w B v T vs) (hT : T.length = n) (hs : SortT T) (hn : n ≤ 1000) :
    Calls Tryz.prog 185 #[v, .int .i64 (id : Int), .func (.func 186) #[] #[]] w fun e w' => e = .returned (.tuple #[.int .i64 (aheadN T id : Nat), .bool (decide (id ∈ T.map Prod.fst))]) ∧ Kp [] w w' := by
  obtain ⟨a, c, rfl, ha⟩ := owns_forms h.row
  rw [hT] at ha
  have hle := ahead_le T id
  have hat := ahead_at T hs id
  have hhas := ahead_has T hs id
  obtain ⟨m, hm⟩ : ∃ m, aheadN T id = m := ⟨_, rfl⟩
  rw [hm] at hle
  have hat' : ∀ i (h : i < T.length), T[i].1 < id ↔ i < m := by rw [← hm]; exact hat
  obtain ⟨r, hr⟩ : ∃ r, decide (id ∈ T.map Prod.fst) = r := ⟨_, rfl⟩
  have hyes : ∀ h : m < T.length, r = decide (T[m].1 = id) := by
    intro h
    rw [← hr]
    apply decide_eq_decide.2
    subst hm
    rw [hhas]
    exact ⟨fun ⟨_, e⟩ => e, fun e => ⟨h, e⟩⟩
  have hno : ¬ m < T.length → r = false := by
    intro h
    rw [← hr]
    subst hm
    simp only [decide_eq_false_iff_not]
    rw [hhas]
    rintro ⟨h', _⟩
    exact h h'
  rw [hm, hr]
  rw [hT] at hle
  have HT := hide h
  have HTL := hide hT
  have HAT := hide hat'
  have HYES := hide hyes
  have HNO := hide hno
  clear h hat hhas hat' hm hr hyes hno
  rw [hT]
  clear hT
  go_enter Tryz.func185, Tryz.ntmps185
  go_wp2_with fail
  go_loopw [9, 10, 11] (fun iv jv hv wr => ∃ (i j : Nat), i ≤ m ∧ m ≤ j ∧ j ≤ n ∧ iv = .int .i64 (i : Int) ∧ jv = .int .i64 (j : Int) ∧ Kp [] w wr) (fun iv jv _ _ => (intOf jv).toNat - (intOf iv).toNat)
  case atStart => exact ⟨0, n, by omega, by omega, by omega, rfl, rfl, Kp.refl _ _⟩
  case round =>
    obtain ⟨i, j, hi, hj, hjn, rfl, rfl, hkp⟩ := hrel
    by_cases hij : i < j
    · obtain ⟨g, rfl⟩ := ha (by omega)
      obtain ⟨hh, hhh⟩ : ∃ hh, (i + j) / 2 = hh := ⟨_, rfl⟩
      have hhn : hh < n := by omega
      have hd := HT.out.kp0 hkp
      have hhT : hh < T.length := by rw [HTL.out]; exact hhn
      have hhv : hh < vs.length := by rw [hd.len]; exact hhT
      obtain ⟨q0, q1⟩ := hd.cells hh hhT hhv
      have hlt := HAT.out hh hhT
      obtain ⟨di, hdi⟩ : ∃ di, T[hh].1 = di := ⟨_, rfl⟩
      rw [hdi] at q0 hlt
      have hc1 : IntKind.u64.wrap ((i : Int) + (j : Int)) = ((i + j : Nat) : Int) := by rw [← Int.natCast_add]; exact wrap_u64 _ (by omega)

      go_wp2_with fail
      refine (gcmp_any di id _ _).mono ?_
      rintro e w1 ⟨rfl, k1⟩
      have k2 := hkp.next k1
      have hz := k1.size
      by_cases hdl : di < id
      · have hcv : Lib.compareInt (di : Int) (id : Int) = -1 := by unfold Lib.compareInt; rw [if_pos (by omega)]
        rw [hcv]
        have hm2 : hh < m := hlt.1 hdl
        clear hcv hlt hd q0 q1
        go_wp2_with fail
        go_roundw
        case rel => exact ⟨hh + 1, j, by omega, by omega, by omega, by go_num, rfl, k2⟩
        case measure => simp [intOf]; omega
      · obtain ⟨cv, hcv, hcp⟩ : ∃ cv : Int, Lib.compareInt (di : Int) (id : Int) = cv ∧ 0 ≤ cv := ⟨_, rfl, cmp_ge _ _ (by omega)⟩
        rw [hcv]
        have hm2 : ¬ hh < m := fun h => hdl (hlt.2 h)
        clear hcv hlt hd q0 q1
        go_wp2_with fail
        go_roundw
        case rel => exact ⟨i, hh, by omega, by omega, by omega, rfl, by go_num, k2⟩
        case measure => simp [intOf]; omega
    · have him : i = m := by omega
      have hjm : j = m := by omega
      subst hjm
      subst him
      by_cases hlt : i < n
      · obtain ⟨g, rfl⟩ := ha (by omega)
        have hd := HT.out.kp0 hkp
        have hhT : i < T.length := by rw [HTL.out]; exact hlt
        have hhv : i < vs.length := by rw [hd.len]; exact hhT
        obtain ⟨q0, q1⟩ := hd.cells i hhT hhv
        have hy := HYES.out hhT
        obtain ⟨di, hdi⟩ : ∃ di, T[i].1 = di := ⟨_, rfl⟩
        rw [hdi] at q0 hy
        have l0 : decide ((i : Int) < (i : Int)) = false := by simp
        clear hd
        go_wp2_with fail
        refine (gcmp_any di id _ _).mono ?_
        rintro e w1 ⟨rfl, k1⟩
        have k2 := hkp.next k1
        have hcv : (Lib.compareInt (di : Int) (id : Int) == 0) = r := by
          rw [hy]
          unfold Lib.compareInt
          by_cases h1 : (di : Int) < (id : Int)
          · rw [if_pos h1]
            have : ¬ di = id := by omega
            simp [this]
          · rw [if_neg h1]
            by_cases h2 : di = id
            · simp [h2]
            · have : (id : Int) < (di : Int) := by omega
              simp [h2, this]
        generalize Lib.compareInt (di : Int) (id : Int) = cv at hcv ⊢
        clear hy q0 q1
        go_wp2_with fail
        go_ret2
        exact ⟨rfl, k2⟩
      · have hr := HNO.out (by rw [HTL.out]; exact hlt)
        have l0 : decide ((i : Int) < (i : Int)) = false := by simp
        have l1 : decide ((i : Int) < (n : Int)) = false := by simp; omega
        go_wp2_with fail
        go_ret2
        rw [hr]
        exact ⟨rfl, hkp⟩
/-- A doc, with the list of its words, and whether it is dead. -/
abbrev Dx := Nat × Value × Bool
def tx3d (xs : List Dx) : List Value := xs.flatMap fun x => [Value.int .i64 (x.1 : Int), x.2.1, .bool x.2.2]
/-- The document's docs, dead ones among them. -/
structure DocsX (w : World) (base : Nat) (v : Value) (T : List Tx) (vs : List Value) : Prop where
  len : vs.length = T.length
  row : ∃ xs : List Dx, xs.length = T.length ∧ w.ownsRow base 266 3 v T.length (tx3d xs) ∧ ∀ i (h : i < T.length) (h2 : i < xs.length) (h3 : i < vs.length), xs[i].1 = T[i].1 ∧ xs[i].2.1 = vs[i]
  each : ∀ i (h : i < T.length) (h2 : i < vs.length), w.ownsRow base 9 1 vs[i] T[i].2.length (strV T[i].2)
end Go.Proofs.YtnffagpdnklnkaaGreatDoor.Pak
namespace Go.Proofs.YtnffagpdnklnkaaGreatDoor.Pak
open Go.RowKit Go.Proofs.YtnffagpdnklnkaaGreatDoor Go.Proofs.YtnffagpdnklnkaaGreatDoor.Spl SiftM Go.Maps
theorem pop_split : ∀ (k f a y : Nat), a < 2 ^ k → Lib.popAux (k + f) (a + 2 ^ k * y) = Lib.popAux k a + Lib.popAux f y
  | 0, f, a, y, h => by
    have : a = 0 := by simpa using h
    subst this
    simp [Lib.popAux]
  | k + 1, f, a, y, h => by
    have e1 : k + 1 + f = (k + f) + 1 := by omega
    rw [e1]
    simp only [Lib.popAux]
    have hp : 2 ^ (k + 1) * y = 2 * (2 ^ k * y) := by rw [Nat.pow_succ, Nat.mul_comm (2 ^ k) 2, Nat.mul_assoc]
    have e2 : (a + 2 ^ (k + 1) * y) % 2 = a % 2 := by rw [hp]; omega
    have e3 : (a + 2 ^ (k + 1) * y) / 2 = a / 2 + 2 ^ k * y := by rw [hp]; omega
    rw [e2, e3, pop_split k f (a / 2) y (by rw [Nat.pow_succ] at h; omega)]
    omega

/-- Shifted to the right by r bits, byte by byte. -/
def shr (r : Nat) : List Nat → List Nat
  | [] => []
  | a :: l => (a / 2 ^ r + 2 ^ (8 - r) * (l.headD 0 % 2 ^ r)) :: shr r l
theorem shr_len (r : Nat) : ∀ l, (shr r l).length = l.length
  | [] => rfl
  | a :: l => by simp [shr, shr_len r l]
theorem fld_head (r : Nat) (hr : r ≤ 8) (l : List Nat) : fld 8 l % 2 ^ r = l.headD 0 % 2 ^ r := by
  cases l with
  | nil => simp [fld]
  | cons a l =>
    simp only [fld, List.headD_cons]
    have : (2 : Nat) ^ 8 = 2 ^ r * 2 ^ (8 - r) := by rw [← Nat.pow_add]; congr 1; omega
    rw [this, Nat.mul_assoc, Nat.add_mul_mod_self_left]
theorem fld_shr (r : Nat) (hr : r ≤ 8) : ∀ l : List Nat, fld 8 l / 2 ^ r = fld 8 (shr r l)
  | [] => by simp [fld, shr]
  | a :: l => by
    have ih := fld_shr r hr l
    have hd := fld_head r hr l
    simp only [fld, shr]
    rw [← ih, ← hd]
    have h8 : (2 : Nat) ^ 8 = 2 ^ r * 2 ^ (8 - r) := by rw [← Nat.pow_add]; congr 1; omega
    have hp : 0 < 2 ^ r := Nat.two_pow_pos r
    rw [h8, Nat.mul_assoc, Nat.add_mul_div_left _ _ hp]
    have h1 := Nat.mod_add_div (fld 8 l) (2 ^ r)
    generalize fld 8 l % 2 ^ r = m at *
    generalize fld 8 l / 2 ^ r = q at *
    rw [← h1, Nat.mul_add]
    have : 2 ^ (8 - r) * (2 ^ r * q) = 2 ^ r * (2 ^ (8 - r) * q) := by rw [← Nat.mul_assoc, ← Nat.mul_assoc, Nat.mul_comm (2 ^ (8 - r))]
    rw [this, Nat.mul_assoc (2 ^ r) (2 ^ (8 - r)) q]
    omega
theorem shr_mem {r : Nat} (hr : r ≤ 8) : ∀ {l : List Nat}, (∀ x ∈ l, x < 2 ^ 8) → ∀ x ∈ shr r l, x < 2 ^ 8
  | [], _, x, hx => by simp [shr] at hx
  | a :: l, h, x, hx => by
    simp only [shr, List.mem_cons] at hx
    rcases hx with rfl | hx
    · have ha := h a (by simp)
      have h8 : (2 : Nat) ^ 8 = 2 ^ (8 - r) * 2 ^ r := by rw [← Nat.pow_add]; congr 1; omega
      have hp : 0 < 2 ^ r := Nat.two_pow_pos r
      have h1 : a / 2 ^ r < 2 ^ (8 - r) := Nat.div_lt_of_lt_mul (by rw [Nat.mul_comm, ← h8]; exact ha)
      have h2 : l.headD 0 % 2 ^ r + 1 ≤ 2 ^ r := Nat.mod_lt _ hp
      have h3 := Nat.mul_le_mul_left (2 ^ (8 - r)) h2
      rw [Nat.mul_add, Nat.mul_one, ← h8] at h3
      omega
    · exact shr_mem hr (fun y hy => h y (by simp [hy])) x hx

/-- One stage on a byte. -/
def st1 (b : Nat) : Nat := ((b / 2) &&& 85) + (b &&& 85)
def st2 (b : Nat) : Nat := ((b / 4) &&& 51) + (b &&& 51)
theorem m1 : ∀ b : Fin 256, ∀ c : Fin 2, ((b.val / 2 + 128 * c.val) &&& 85) = (b.val / 2) &&& 85 := by decide +kernel
theorem m2 : ∀ b : Fin 256, ∀ c : Fin 4, ((b.val / 4 + 64 * c.val) &&& 51) = (b.val / 4) &&& 51 := by decide +kernel
theorem m3 : ∀ b : Fin 256, ∀ c : Fin 5, st2 (st1 b.val) / 16 + 16 * c.val + st2 (st1 b.val) < 256 ∧ ((st2 (st1 b.val) / 16 + 16 * c.val + st2 (st1 b.val)) &&& 15) = Lib.popAux 8 b.val ∧ st2 (st1 b.val) % 16 ≤ 4 ∧ st1 b.val < 256 ∧ st2 (st1 b.val) < 256 ∧ Lib.popAux 8 b.val ≤ 8 := by decide +kernel

theorem stage1 (l : List Nat) (h : ∀ x ∈ l, x < 256) : List.zipWith (· + ·) (List.zipWith (· &&& ·) (shr 1 l) (List.replicate l.length 85)) (List.zipWith (· &&& ·) l (List.replicate l.length 85)) = l.map st1 := by
  induction l with
  | nil => rfl
  | cons a l ih =>
    simp only [shr, List.length_cons, List.replicate_succ, List.zipWith_cons_cons, List.map_cons]
    rw [ih fun x hx => h x (by simp [hx])]
    congr 1
    have := m1 ⟨a, h a (by simp)⟩ ⟨l.headD 0 % 2, Nat.mod_lt _ (by omega)⟩
    simp only [Nat.pow_one] at this ⊢
    rw [show (8 - 1 : Nat) = 7 from rfl, show (2 : Nat) ^ 7 = 128 from rfl, this]
    rfl
theorem stage2 (l : List Nat) (h : ∀ x ∈ l, x < 256) : List.zipWith (· + ·) (List.zipWith (· &&& ·) (shr 2 l) (List.replicate l.length 51)) (List.zipWith (· &&& ·) l (List.replicate l.length 51)) = l.map st2 := by
  induction l with
  | nil => rfl
  | cons a l ih =>
    simp only [shr, List.length_cons, List.replicate_succ, List.zipWith_cons_cons, List.map_cons]
    rw [ih fun x hx => h x (by simp [hx])]
    congr 1
    have := m2 ⟨a, h a (by simp)⟩ ⟨l.headD 0 % 4, Nat.mod_lt _ (by omega)⟩
    rw [show (8 - 2 : Nat) = 6 from rfl, show (2 : Nat) ^ 6 = 64 from rfl, show (2 : Nat) ^ 2 = 4 from rfl, this]
    rfl
theorem stage3 (l : List Nat) (h : ∀ x ∈ l, x < 256) :
    (∀ x ∈ List.zipWith (· + ·) (shr 4 (l.map fun b => st2 (st1 b))) (l.map fun b => st2 (st1 b)), x < 2 ^ 8) ∧
    List.zipWith (· &&& ·) (List.zipWith (· + ·) (shr 4 (l.map fun b => st2 (st1 b))) (l.map fun b => st2 (st1 b))) (List.replicate l.length 15) = l.map (Lib.popAux 8) := by
  induction l with
  | nil => exact ⟨fun x hx => by simp [shr] at hx, rfl⟩
  | cons a l ih =>
    obtain ⟨i1, i2⟩ := ih fun x hx => h x (by simp [hx])
    have hc : (l.map fun b => st2 (st1 b)).headD 0 % 2 ^ 4 < 5 := by
      cases l with
      | nil => decide
      | cons c l =>
        have := (m3 ⟨c, h c (by simp)⟩ ⟨0, by omega⟩).2.2.1
        simp only [List.map_cons, List.headD_cons]
        have e : (2 : Nat) ^ 4 = 16 := rfl
        rw [e]
        simp only at this
        omega
    have hm := m3 ⟨a, h a (by simp)⟩ ⟨_, hc⟩
    simp only at hm
    have e4 : (2 : Nat) ^ (8 - 4) = 16 := rfl
    have e16 : (2 : Nat) ^ 4 = 16 := rfl
    simp only [List.map_cons, shr, List.length_cons, List.replicate_succ, List.zipWith_cons_cons]
    rw [e4, e16] at *
    constructor
    · intro x hx
      rcases List.mem_cons.1 hx with rfl | hx
      · exact hm.1
      · exact i1 x hx
    · rw [i2, hm.2.1]
def bytes8 (s : Nat) : List Nat := [s % 256, s / 256 % 256, s / 65536 % 256, s / 16777216 % 256, s / 4294967296 % 256, s / 1099511627776 % 256, s / 281474976710656 % 256, s / 72057594037927936]
theorem bytes8_fld (s : Nat) : fld 8 (bytes8 s) = s := by
  simp only [bytes8, fld]
  omega
theorem bytes8_lt (s : Nat) (h : s < 18446744073709551616) : ∀ x ∈ bytes8 s, x < 256 := by
  intro x hx
  simp only [bytes8, List.mem_cons, List.mem_nil_iff, or_false] at hx
  rcases hx with rfl | rfl | rfl | rfl | rfl | rfl | rfl | rfl <;> omega

/-- The stages of the count. -/
structure Swar (s a1 a2 x1 b1 b2 x2 y x3 : Nat) : Prop where
  h1 : s / 2 &&& 6148914691236517205 = a1
  h2 : s &&& 6148914691236517205 = a2
  h3 : a1 + a2 = x1
  l1 : x1 < 18446744073709551616
  h4 : x1 / 4 &&& 3689348814741910323 = b1
  h5 : x1 &&& 3689348814741910323 = b2
  h6 : b1 + b2 = x2
  l2 : x2 < 18446744073709551616
  h7 : x2 / 16 + x2 = y
  l3 : y < 18446744073709551616
  h8 : y &&& 1085102592571150095 = x3
  h9 : x3 = fld 8 ((bytes8 s).map (Lib.popAux 8))
theorem swar (s : Nat) (hs : s < 18446744073709551616) : ∃ a1 a2 x1 b1 b2 x2 y x3, Swar s a1 a2 x1 b1 b2 x2 y x3 := by
  have hl := bytes8_lt s hs
  have hf := bytes8_fld s
  have hn : (bytes8 s).length = 8 := rfl
  generalize hB : bytes8 s = l at hl hf hn
  have e85 : (6148914691236517205 : Nat) = fld 8 (List.replicate l.length 85) := by rw [hn]; rfl
  have e51 : (3689348814741910323 : Nat) = fld 8 (List.replicate l.length 51) := by rw [hn]; rfl
  have e15 : (1085102592571150095 : Nat) = fld 8 (List.replicate l.length 15) := by rw [hn]; rfl
  have hrep : ∀ c, c < 256 → ∀ x ∈ List.replicate l.length c, x < 2 ^ 8 := fun c hc x hx => by rw [List.eq_of_mem_replicate hx]; exact hc
  have hst1 : ∀ x ∈ l.map st1, x < 2 ^ 8 := fun x hx => by
    obtain ⟨b, hb, rfl⟩ := List.mem_map.1 hx
    exact (m3 ⟨b, hl b hb⟩ ⟨0, by omega⟩).2.2.2.1
  have hst2 : ∀ x ∈ l.map (fun b => st2 (st1 b)), x < 2 ^ 8 := fun x hx => by
    obtain ⟨b, hb, rfl⟩ := List.mem_map.1 hx
    exact (m3 ⟨b, hl b hb⟩ ⟨0, by omega⟩).2.2.2.2.1
  have e1 : s / 2 = fld 8 (shr 1 l) := by rw [← hf]; exact fld_shr 1 (by omega) l
  have q1 := stage1 l hl
  have q2 := stage2 (l.map st1) hst1
  have q3 := stage3 l hl
  have hmm : (l.map st1).map st2 = l.map fun b => st2 (st1 b) := by rw [List.map_map]; rfl
  rw [hmm, List.length_map] at q2
  refine ⟨_, _, fld 8 (l.map st1), _, _, fld 8 (l.map fun b => st2 (st1 b)), fld 8 (List.zipWith (· + ·) (shr 4 (l.map fun b => st2 (st1 b))) (l.map fun b => st2 (st1 b))), _, rfl, rfl, ?_, ?_, rfl, rfl, ?_, ?_, ?_, ?_, rfl, ?_⟩
  · rw [e1, e85]
    conv => lhs; rhs; rw [← hf]
    rw [fld_and 8 _ _ (by rw [shr_len, List.length_replicate]) (shr_mem (by omega) hl) (hrep 85 (by omega)), fld_and 8 _ _ (by rw [List.length_replicate]) hl (hrep 85 (by omega)),
      fld_add 8 _ _ (by simp [shr_len]), q1]
  · have := fld_lt 8 _ hst1
    rw [List.length_map, hn] at this
    exact this
  · rw [show (4 : Nat) = 2 ^ 2 from rfl, fld_shr 2 (by omega), e51,
      fld_and 8 _ _ (by rw [shr_len, List.length_replicate, List.length_map]) (shr_mem (by omega) hst1) (hrep 51 (by omega)), fld_and 8 _ _ (by rw [List.length_replicate, List.length_map]) hst1 (hrep 51 (by omega)),
      fld_add 8 _ _ (by simp [shr_len]), q2]
  · have := fld_lt 8 _ hst2
    rw [List.length_map, hn] at this
    exact this
  · rw [show (16 : Nat) = 2 ^ 4 from rfl, fld_shr 4 (by omega), fld_add 8 _ _ (by rw [shr_len])]
  · have := fld_lt 8 _ q3.1
    rw [List.length_zipWith, shr_len, List.length_map, Nat.min_self, hn] at this
    exact this
  · rw [e15, fld_and 8 _ _ (by simp [shr_len]) q3.1 (hrep 15 (by omega)), q3.2, hB]
theorem pop_bytes (s : Nat) (hs : s < 18446744073709551616) : Lib.onesCount s = ((bytes8 s).map (Lib.popAux 8)).sum := by
  have hl := bytes8_lt s hs
  have : ∀ (l : List Nat), (∀ x ∈ l, x < 256) → Lib.popAux (8 * l.length) (fld 8 l) = (l.map (Lib.popAux 8)).sum := by
    intro l
    induction l with
    | nil => intro _; rfl
    | cons a l ih =>
      intro h
      have e : 8 * (a :: l).length = 8 + 8 * l.length := by simp; omega
      rw [e, fld, pop_split 8 _ a _ (h a (by simp)), ih fun x hx => h x (by simp [hx])]
      simp
  have h2 := this (bytes8 s) hl
  rw [bytes8_fld] at h2
  exact h2
/-- The last additions. -/
theorem swar_sum (p0 p1 p2 p3 p4 p5 p6 p7 x3 x4 x5 x6 : Nat) (h0 : p0 ≤ 8) (h1 : p1 ≤ 8) (h2 : p2 ≤ 8) (h3 : p3 ≤ 8) (h4 : p4 ≤ 8) (h5 : p5 ≤ 8) (h6 : p6 ≤ 8) (h7 : p7 ≤ 8) (e3 : x3 = fld 8 [p0, p1, p2, p3, p4, p5, p6, p7]) (e4 : x4 = x3 + x3 / 256) (e5 : x5 = x4 + x4 / 65536) (e6 : x6 = x5 + x5 / 4294967296) :
    x6 % 128 = p0 + p1 + p2 + p3 + p4 + p5 + p6 + p7 ∧ x6 < 9223372036854775808 := by
  simp only [fld] at e3
  have d3 : x3 / 256 = p1 + 256 * (p2 + 256 * (p3 + 256 * (p4 + 256 * (p5 + 256 * (p6 + 256 * p7))))) := by omega
  have f4 : x4 = (p0 + p1) + 256 * ((p1 + p2) + 256 * ((p2 + p3) + 256 * ((p3 + p4) + 256 * ((p4 + p5) + 256 * ((p5 + p6) + 256 * ((p6 + p7) + 256 * p7)))))) := by omega
  clear e4 d3 e3
  have d4 : x4 / 65536 = (p2 + p3) + 256 * ((p3 + p4) + 256 * ((p4 + p5) + 256 * ((p5 + p6) + 256 * ((p6 + p7) + 256 * p7)))) := by omega
  have f5 : x5 = (p0 + p1 + p2 + p3) + 256 * ((p1 + p2 + p3 + p4) + 256 * ((p2 + p3 + p4 + p5) + 256 * ((p3 + p4 + p5 + p6) + 256 * ((p4 + p5 + p6 + p7) + 256 * ((p5 + p6 + p7) + 256 * ((p6 + p7) + 256 * p7)))))) := by omega
  clear e5 d4 f4
  have d5 : x5 / 4294967296 = (p4 + p5 + p6 + p7) + 256 * ((p5 + p6 + p7) + 256 * ((p6 + p7) + 256 * p7)) := by omega
  omega

theorem i64_and_nat (a b : Nat) (ha : a < 9223372036854775808) (hb : b < 9223372036854775808) : bits .and .i64 (a : Int) (b : Int) = ((a &&& b : Nat) : Int) := by
  have hx : a &&& b ≤ a := Nat.and_le_left
  show IntKind.i64.wrap ((BitVec.ofInt 64 (a : Int) &&& BitVec.ofInt 64 (b : Int)).toNat : Int) = _
  rw [BitVec.toNat_and, ofInt_i64 a ha, ofInt_i64 b hb]
  exact IntWalk.i64_in _ ⟨by omega, by omega⟩

set_option maxHeartbeats 1000000 in
theorem ones_any (s : Nat) (w : World) (hs : s < 18446744073709551616) :
    Calls Tryz.prog 89 #[.int .u64 (s : Int)] w fun e w' => e = .returned (.int .i64 ((Lib.onesCount s : Nat) : Int)) ∧ w' = w := by
  obtain ⟨a1, a2, x1, b1, b2, x2, y, x3, h⟩ := swar s hs
  have ha1 : a1 < 18446744073709551616 := by have := h.h3; have := h.l1; omega
  have ha2 : a2 < 18446744073709551616 := by have := h.h3; have := h.l1; omega
  have hb1 : b1 < 18446744073709551616 := by have := h.h6; have := h.l2; omega
  have hb2 : b2 < 18446744073709551616 := by have := h.h6; have := h.l2; omega
  have hx3 : x3 < 18446744073709551616 := by rw [← h.h8]; have := Nat.and_le_left (n := y) (m := 1085102592571150095); have := h.l3; omega
  obtain ⟨x4, e4⟩ : ∃ x4, x4 = x3 + x3 / 256 := ⟨_, rfl⟩
  obtain ⟨x5, e5⟩ : ∃ x5, x5 = x4 + x4 / 65536 := ⟨_, rfl⟩
  obtain ⟨x6, e6⟩ : ∃ x6, x6 = x5 + x5 / 4294967296 := ⟨_, rfl⟩
  have hpop : ∀ b, b < 256 → Lib.popAux 8 b ≤ 8 := fun b hb => (m3 ⟨b, hb⟩ ⟨0, by omega⟩).2.2.2.2.2
  have hl := bytes8_lt s hs
  have hsum := swar_sum _ _ _ _ _ _ _ _ x3 x4 x5 x6 (hpop _ (hl (s % 256) (by simp [bytes8]))) (hpop _ (hl (s / 256 % 256) (by simp [bytes8]))) (hpop _ (hl (s / 65536 % 256) (by simp [bytes8]))) (hpop _ (hl (s / 16777216 % 256) (by simp [bytes8]))) (hpop _ (hl (s / 4294967296 % 256) (by simp [bytes8]))) (hpop _ (hl (s / 1099511627776 % 256) (by simp [bytes8]))) (hpop _ (hl (s / 281474976710656 % 256) (by simp [bytes8]))) (hpop _ (hl (s / 72057594037927936) (by simp [bytes8]))) h.h9 e4 e5 e6
  have hcnt : Lib.onesCount s = x6 % 128 := by
    rw [pop_bytes s hs, hsum.1]
    simp only [bytes8, List.map_cons, List.map_nil, List.sum_cons, List.sum_nil]
    omega
  have hx6 := hsum.2
  rw [hcnt]
  have f1 : bits .and .u64 ((s : Int) / 2) 6148914691236517205 = (a1 : Int) := by
    rw [show ((s : Int) / 2) = ((s / 2 : Nat) : Int) by omega, show (6148914691236517205 : Int) = ((6148914691236517205 : Nat) : Int) from rfl, u64_and_nat _ _ (by omega) (by omega), h.h1]
  have f2 : bits .and .u64 (s : Int) 6148914691236517205 = (a2 : Int) := by
    rw [show (6148914691236517205 : Int) = ((6148914691236517205 : Nat) : Int) from rfl, u64_and_nat _ _ hs (by omega), h.h2]
  have f3 : IntKind.u64.wrap ((a1 : Int) + (a2 : Int)) = (x1 : Int) := by rw [show (a1 : Int) + (a2 : Int) = ((a1 + a2 : Nat) : Int) by omega, h.h3, wrap_u64 _ h.l1]
  have f4 : bits .and .u64 ((x1 : Int) / 4) 3689348814741910323 = (b1 : Int) := by
    rw [show ((x1 : Int) / 4) = ((x1 / 4 : Nat) : Int) by omega, show (3689348814741910323 : Int) = ((3689348814741910323 : Nat) : Int) from rfl, u64_and_nat _ _ (by have := h.l1; omega) (by omega), h.h4]
  have f5 : bits .and .u64 (x1 : Int) 3689348814741910323 = (b2 : Int) := by
    rw [show (3689348814741910323 : Int) = ((3689348814741910323 : Nat) : Int) from rfl, u64_and_nat _ _ h.l1 (by omega), h.h5]
  have f6 : IntKind.u64.wrap ((b1 : Int) + (b2 : Int)) = (x2 : Int) := by rw [show (b1 : Int) + (b2 : Int) = ((b1 + b2 : Nat) : Int) by omega, h.h6, wrap_u64 _ h.l2]
  have f7 : IntKind.u64.wrap ((x2 : Int) / 16 + (x2 : Int)) = (y : Int) := by rw [show (x2 : Int) / 16 + (x2 : Int) = ((x2 / 16 + x2 : Nat) : Int) by omega, h.h7, wrap_u64 _ h.l3]
  have f8 : bits .and .u64 (y : Int) 1085102592571150095 = (x3 : Int) := by
    rw [show (1085102592571150095 : Int) = ((1085102592571150095 : Nat) : Int) from rfl, u64_and_nat _ _ h.l3 (by omega), h.h8]
  have f9 : IntKind.u64.wrap ((x3 : Int) + (x3 : Int) / 256) = (x4 : Int) := by rw [show (x3 : Int) + (x3 : Int) / 256 = ((x4 : Nat) : Int) by omega, wrap_u64 _ (by omega)]
  have f10 : IntKind.u64.wrap ((x4 : Int) + (x4 : Int) / 65536) = (x5 : Int) := by rw [show (x4 : Int) + (x4 : Int) / 65536 = ((x5 : Nat) : Int) by omega, wrap_u64 _ (by omega)]
  have f11 : IntKind.u64.wrap ((x5 : Int) + (x5 : Int) / 4294967296) = (x6 : Int) := by rw [show (x5 : Int) + (x5 : Int) / 4294967296 = ((x6 : Nat) : Int) by omega, wrap_u64 _ (by omega)]
  clear hsum hpop hl h hcnt e4 e5 e6
  have f12 : bits .and .i64 (x6 : Int) 127 = ((x6 % 128 : Nat) : Int) := by
    rw [show (127 : Int) = ((127 : Nat) : Int) from rfl, i64_and_nat x6 127 hx6 (by omega), show (127 : Nat) = 2 ^ 7 - 1 from rfl, Nat.and_two_pow_sub_one_eq_mod]
  go_enter Tryz.func89, Tryz.ntmps89
  go_wp2_with fail
  go_ret
  exact ⟨rfl, rfl⟩
set_option maxHeartbeats 400000 in
theorem setLen_any (s : Nat) (w : World) (hs : s < 18446744073709551616) :
    Calls Tryz.prog 55 #[.int .u64 (s : Int)] w fun e w' => e = .returned (.int .i64 ((Lib.onesCount s : Nat) : Int)) ∧ w' = w := by
  go_enter Tryz.func55, Tryz.ntmps55
  go_wp2_with fail
  refine (ones_any s _ hs).mono ?_
  rintro e w1 ⟨rfl, rfl⟩
  go_wp2_with fail
  go_ret
  exact ⟨rfl, rfl⟩
end Go.Proofs.YtnffagpdnklnkaaGreatDoor.Pak
