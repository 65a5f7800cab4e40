import Derived.Test.YtnffagpdnklnkaaGreatDoorV26
import Derived.Test.YtnffagpdnklnkaaGreatDoorV25
import Derived.Test.YtnffagpdnklnkaaGreatDoorV10
import Derived.Test.YtnffagpdnklnkaaGreatDoorV22
import Derived.Test.YtnffagpdnklnkaaGreatDoorV21
set_option linter.unusedVariables false
set_option linter.unusedSimpArgs false
set_option maxRecDepth 8000
namespace Go.Proofs.YtnffagpdnklnkaaGreatDoor.Pak
open Go.RowKit Go.Proofs.YtnffagpdnklnkaaGreatDoor Go.Proofs.YtnffagpdnklnkaaGreatDoor.Spl SiftM
/-- The names of a commit's files. -/
def toldN (n : Nat) (Ps : List PPt) : List (List UInt8) := comN n :: Ps.map fun t => segN t.num
theorem tsV_get (Ps : List PPt) (i : Nat) (h : i < Ps.length) : (tsV Ps)[i * 3]? = some (.int .i64 ((Ps[i]).num : Int)) ∧ (tsV Ps)[i * 3 + 1]? = some (.int .i64 ((Ps[i]).T.length : Int)) ∧ (tsV Ps)[i * 3 + 2]? = some (.int .u64 ((Ps[i]).dead : Int)) := by
  induction Ps generalizing i with
  | nil => simp at h
  | cons t r ih =>
    have e : tsV (t :: r) = tsA t ++ tsV r := by simp [tsV]
    rw [e]
    cases i with
    | zero => simp [tsA]
    | succ i =>
      have hl : (tsA t).length = 3 := rfl
      have := ih i (by simpa using h)
      rw [List.getElem?_append_right (by rw [hl]; omega), List.getElem?_append_right (by rw [hl]; omega), List.getElem?_append_right (by rw [hl]; omega), hl]
      rw [show (i + 1) * 3 - 3 = i * 3 by omega, show (i + 1) * 3 + 1 - 3 = i * 3 + 1 by omega, show (i + 1) * 3 + 2 - 3 = i * 3 + 2 by omega]
      simpa using this
set_option maxHeartbeats 2000000 in
theorem cnames_any (B n nx k : Nat) (v : Value) (Ps : List PPt) (w : World) (hv : w.ownsRow B 143 3 v k (tsV Ps)) (hk : Ps.length = k) (hn : n ≤ 1000000000000) (hk2 : k ≤ 1000000) (hnum : ∀ t ∈ Ps, t.num ≤ 1000000000000) (hT : TabP w) :
    Calls Tryz.prog 50 #[.agg #[.int .i64 (n : Int), .int .i64 (nx : Int), v]] w fun e w' => ∃ v', e = .returned v' ∧ w'.ownsRow w.heap.size 9 1 v' (k + 1) (nmL (toldN n Ps)) ∧ Kp [] w w' := by
  obtain ⟨i0, hi0, hz0, hz1, hz2⟩ := info_parts Tryz.info9
  obtain ⟨av, cv, rfl, hav⟩ := owns_forms hv
  obtain ⟨W1, hW1⟩ : ∃ W1, w.alloc (.cells #[.int .i64 (n : Int), .int .i64 (nx : Int), .slice av k cv] 94) = W1 := ⟨_, rfl⟩
  have k1 : Kp [] w W1 := by rw [← hW1]; exact (Kp.refl _ _).alloc _
  have hs1 : W1.heap.size = w.heap.size + 1 := by rw [← hW1]; simp
  have hb1 : W1.heap[w.heap.size]? = some (.cells #[.int .i64 (n : Int), .int .i64 (nx : Int), .slice av k cv] 94 (0, 0)) := by rw [← hW1]; exact heap_alloc_new w _
  obtain ⟨c0, c1, c2⟩ : W1.cell? ⟨w.heap.size, 0, none⟩ = some (.int .i64 (n : Int)) ∧ W1.cell? ⟨w.heap.size, 1, none⟩ = some (.int .i64 (nx : Int)) ∧ W1.cell? ⟨w.heap.size, 2, none⟩ = some (.slice av k cv) := by refine ⟨?_, ?_, ?_⟩ <;> simp [World.cell?, hb1]
  have hcn := comN_any n W1 (hT.kp k1 (by simp)) hn
  have HV := hide (k1.owns hv (by simp))
  have HT := hide (hT.kp k1 (by simp))
  clear hv hT hb1
  go_enter Tryz.func50, Tryz.ntmps50
  go_wp2_with (simp only [hW1])
  refine hcn.mono ?_
  rintro e W2 ⟨rfl, k2⟩
  obtain ⟨cb, hcb⟩ : ∃ cb : ByteArray, nmV (comN n) = .string cb := ⟨_, rfl⟩
  obtain ⟨W3, hW3⟩ : ∃ W3, W2.alloc (.cells #[.string cb] 9) = W3 := ⟨_, rfl⟩
  have k3 : Kp [] W2 W3 := by rw [← hW3]; exact (Kp.refl _ _).alloc _
  have k13 := k2.next k3
  have hz2' := k2.size
  have hrow0 : W3.ownsRow W1.heap.size 9 1 (.slice (some ⟨W2.heap.size, 0, none⟩) 1 1) 1 (nmL [comN n]) := by
    have := World.ownsRow_lit (base := W1.heap.size) (e := 9) (size := 1) W2 #[.string cb] 1 (by omega) (by unfold maxLen; omega) rfl
    rw [hW3] at this
    simpa [nmL, hcb] using this
  have d0 := k13.cellv c0 (by simp)
  have d2 := k13.cellv c2 (by simp)
  have HV3 := hide (k13.owns HV.out (by simp))
  have HT3 := hide (HT.out.kp k13 (by simp))
  have HR0 := hide hrow0
  have hz3 := k13.size
  rw [hcb]
  clear hcn hrow0
  go_wp2_with (simp only [hW3])
  clear hW3 hW1
  go_loopw [3, 13] (fun ov iv wr => ∃ (i : Nat) (a : Option Addr) (c : Nat), i ≤ k ∧ iv = .int .i64 (i : Int) ∧ ov = .slice a (i + 1) c ∧ Hid (wr.ownsRow W1.heap.size 9 1 (.slice a (i + 1) c) (i + 1) (nmL (toldN n (Ps.take i)))) ∧ Hid (Kp [] W1 wr)) (fun _ iv _ => k - (intOf iv).toNat)
  case atStart => exact ⟨0, _, _, by omega, rfl, rfl, HR0, k13⟩
  case round =>
    obtain ⟨i, a, c, hi, rfl, rfl, hO, hK⟩ := hrel
    by_cases hlt : i < k
    · obtain ⟨g, rfl⟩ := hav (by omega)
      have hiL : i < Ps.length := by omega
      obtain ⟨e0, e1, e2⟩ := tsV_get Ps i hiL
      have hrow := hK.out.owns HV.out (by simp)
      have q0 := (hrow.cellAt (i * 3) (by omega)).trans e0
      have q1 := (hrow.cellAt (i * 3 + 1) (by omega)).trans e1
      have q2 := (hrow.cellAt (i * 3 + 2) (by omega)).trans e2
      have hnm := hnum _ (List.getElem_mem hiL)
      have htk : toldN n (Ps.take (i + 1)) = toldN n (Ps.take i) ++ [segN (Ps[i]).num] := by
        unfold toldN
        rw [take_snocL Ps i hiL, List.map_append]
        rfl
      obtain ⟨t, ht⟩ : ∃ t, Ps[i] = t := ⟨_, rfl⟩
      rw [ht] at q0 q1 q2 hnm htk
      obtain ⟨W4, hW4⟩ : ∃ W4, wr.alloc (.cells #[.int .i64 (t.num : Int), .int .i64 (t.T.length : Int), .int .u64 (t.dead : Int)] 143) = W4 := ⟨_, rfl⟩
      have k4 : Kp [] wr W4 := by rw [← hW4]; exact (Kp.refl _ _).alloc _
      have hb4 : W4.heap[wr.heap.size]? = some (.cells #[.int .i64 (t.num : Int), .int .i64 (t.T.length : Int), .int .u64 (t.dead : Int)] 143 (0, 0)) := by rw [← hW4]; exact heap_alloc_new wr _
      have z0 : W4.cell? ⟨wr.heap.size, 0, none⟩ = some (.int .i64 (t.num : Int)) := by simp [World.cell?, hb4]
      have hK4 := hK.out.next k4
      have hsg := segN_any t.num W4 (HT.out.kp hK4 (by simp)) hnm
      have j1 : (0 : Int) ≤ (i : Int) := by omega
      have j2 : (i : Int) < (k : Int) := by omega
      have hz4 := hK4.size
      have HTK := hide htk
      have HO4 := hide (k4.owns hO.out (by simp))
      clear hrow e0 e1 e2 htk ht hb4
      go_wp2_with (simp only [hW4])
      clear hW4
      refine hsg.mono ?_
      rintro e W5 ⟨rfl, k5⟩
      obtain ⟨sb, hsb⟩ : ∃ sb : ByteArray, nmV (segN t.num) = .string sb := ⟨_, rfl⟩
      rw [hsb]
      obtain ⟨W6, hW6⟩ : ∃ W6, W5.alloc (.cells #[.string sb] 9) = W6 := ⟨_, rfl⟩
      have k6 : Kp [] W5 W6 := by rw [← hW6]; exact (Kp.refl _ _).alloc _
      have hn6 : W6.heap[W5.heap.size]? = some (.cells #[.string sb] 9 (0, 0)) := by rw [← hW6]; exact heap_alloc_new W5 _
      have hs6 : W6.heap.size = W5.heap.size + 1 := by rw [← hW6]; simp
      have hz5 := k5.size
      have hO6 := (k5.next k6).owns HO4.out (by simp)
      have hnews := World.news_of_block (cs := #[.string sb]) (t := 9) (fr := (0, 0)) hn6
      have hK6 := (hK4.next k5).next k6
      go_wp2_with (first
        | simp only [hW6]
        | (at_builtin; (refine wpList_append_own_at _ rfl _ _ 37 rfl W1.heap.size 9 i0 (.string ⟨#[]⟩) 1 16 Tryz.underlying37 hi0 hz0 hz1 hz2 rfl (by decide) _ _ _ rfl hO6 ⟨W5.heap.size, 0, none⟩ 1 1 [.string sb] rfl rfl hnews (by simp [Value.oneCell']) (by unfold maxLen; omega) (by omega) (by omega) ?_; intro u' W7 hown7 hgrow _ hblk; obtain ⟨ua', uc', eu', _⟩ := owns_forms hown7; subst eu')))
      go_roundw
      case rel =>
        refine ⟨i + 1, _, _, by omega, by go_num, rfl, ?_, ?_⟩
        · show World.ownsRow _ _ _ _ _ _ _
          rw [HTK.out]
          have : nmL (toldN n (Ps.take i) ++ [segN t.num]) = nmL (toldN n (Ps.take i)) ++ [.string sb] := by simp [nmL, hsb]
          rw [this]
          exact hown7
        · exact hK6.trans (grown_kp hgrow) (fun x hx => .inr (hO6.lt x (Option.mem_toList.1 hx)).1)
      case measure => simp [intOf]; omega
    · have hin : i = k := by omega
      subst hin
      go_wp2_with fail
      go_ret
      refine ⟨_, rfl, ?_, k1.next hK.out⟩
      have := hO.out
      rw [List.take_of_length_le (by omega)] at this
      exact ownsRow_base_a this (by omega)
set_option maxHeartbeats 800000 in
theorem wbyte_any (W base : Nat) (l : List UInt8) (m : Nat) (w : World) (h : Wr w W base l) (hb : base ≤ w.heap.size) (hl : l.length ≤ 200000000) (hm : m < 256) :
    Calls Tryz.prog 79 #[.pointer (some ⟨W, 0, none⟩), .int .u8 (m : Int)] w fun e w' => e = .returned (.tuple #[]) ∧ Wr w' W base (l ++ [UInt8.ofNat m]) ∧ Kb 5 [W] base w w' := by
  obtain ⟨i0, hi, hz0, hz1, hz2⟩ := info_parts info5
  obtain ⟨a, cap, h1, hown⟩ := wr_slice h
  obtain ⟨c0, f0⟩ := wr_cell h1
  have H1 := hide h1
  have hne := hide (owns_ne hown h1 (by decide))
  clear h1 h
  go_enter Tryz.func79, Tryz.ntmps79
  go_wp2_with (first
    | (at_builtin; refine wpList_append_own_at _ rfl _ _ 42 rfl base 5 i0 (.int .u8 0) 1 1 Tryz.underlying42 hi hz0 hz1 hz2 rfl (by decide) _ _ _ rfl (hown.alloc _) ⟨w.heap.size, 0, none⟩ 1 1 [.int .u8 m] rfl rfl (one_new _ _ _) (one_cell _ _) ?c1 ?c2 ?c3 ?_)
    | fail)
  case c1 => unfold maxLen; omega
  case c2 => omega
  case c3 => simp; omega
  intro v' w2 hown2 hgrow _ _
  have h2 : w2.heap[W]? = some (.cells #[.slice a l.length cap] 146 (0, 0)) := by
    rw [hgrow.block W (by have := heap_lt H1.out; simp; omega) (fun e => hne.out e.symm), Below.heap_alloc _ _ _ (heap_lt H1.out)]; exact H1.out
  obtain ⟨c2, f2⟩ := wr_cell h2
  have H2 := hide h2
  obtain ⟨a', cap', rfl, _⟩ := owns_forms hown2
  clear h2
  go_wp2_with fail
  go_end0
  refine ⟨rfl, wr_put (w' := w2) H2.out ?_, (((Kb.refl _ _ _ _).alloc _).grown (hown.alloc _) hgrow).setW (.inl (by simp)) _⟩
  rw [byV_append, List.length_append]
  have hmm : byV [UInt8.ofNat m] = [.int .u8 (m : Int)] := by
    simp [byV]
    omega
  rw [hmm]
  exact hown2
/-- The bytes of a commit's file. -/
def deadB (dead j : Nat) : List UInt8 := (List.range j).map fun i => UInt8.ofNat (dead / 2 ^ (8 * i) % 256)
def comP (t : PPt) : List UInt8 := numB t.num ++ numB t.T.length ++ deadB t.dead ((t.T.length + 7) / 8)
def comD (n nx k : Nat) : List UInt8 := [67] ++ numB n ++ numB nx ++ numB k
def comH (n nx : Nat) (Ps : List PPt) : List UInt8 := comD n nx Ps.length ++ Ps.flatMap comP
def comB (n nx : Nat) (Ps : List PPt) : List UInt8 := comH n nx Ps ++ sumB (comH n nx Ps)
theorem deadB_len (dead j : Nat) : (deadB dead j).length = j := by simp [deadB]
theorem deadB_snoc (dead j : Nat) : deadB dead (j + 1) = deadB dead j ++ [UInt8.ofNat (dead / 2 ^ (8 * j) % 256)] := by simp [deadB, List.range_succ]
theorem comP_len (t : PPt) (h : t.T.length ≤ 60) : (comP t).length ≤ 16 := by
  have h1 := numB_len t.num
  have h2 := numB_len t.T.length
  unfold comP
  rw [List.length_append, List.length_append, deadB_len]
  omega
theorem comD_len (n nx k : Nat) : (comD n nx k).length ≤ 13 := by
  have h1 := numB_len n
  have h2 := numB_len nx
  have h3 := numB_len k
  unfold comD
  simp only [List.length_append, List.length_cons, List.length_nil]
  omega
theorem flat_len : ∀ (Ps : List PPt), (∀ t ∈ Ps, t.T.length ≤ 60) → (Ps.flatMap comP).length ≤ 16 * Ps.length
  | [], _ => by simp
  | t :: r, h => by
    have h1 := comP_len t (h t (by simp))
    have h2 := flat_len r (fun u hu => h u (by simp [hu]))
    simp only [List.flatMap_cons, List.length_append, List.length_cons]
    omega
theorem flat_take (Ps : List PPt) (i : Nat) (h : i < Ps.length) : (Ps.take (i + 1)).flatMap comP = (Ps.take i).flatMap comP ++ comP Ps[i] := by
  rw [take_snocL Ps i h, List.flatMap_append]
  simp
theorem byte_cast (d j m : Nat) (h : d / 2 ^ (8 * j) % 256 = m) : ((d : Int) / 2 ^ (8 * j) % 256) = (m : Int) := by
  rw [← h]
  push_cast
  rfl
set_option maxRecDepth 100000 in
set_option maxHeartbeats 4000000 in
theorem cfile_any (B n nx k : Nat) (v : Value) (Ps : List PPt) (w : World) (hv : w.ownsRow B 143 3 v k (tsV Ps)) (hk : Ps.length = k) (hn : n < 268435456) (hnx : nx < 268435456) (hk2 : k ≤ 1000000) (hnum : ∀ t ∈ Ps, t.num < 268435456 ∧ t.T.length ≤ 60 ∧ t.dead < 18446744073709551616) :
    Calls Tryz.prog 45 #[.agg #[.int .i64 (n : Int), .int .i64 (nx : Int), v]] w fun e w' => ∃ v', e = .returned v' ∧ w'.ownsRow w.heap.size 5 1 v' (comB n nx Ps).length (byV (comB n nx Ps)) ∧ Kp [] w w' := by
  obtain ⟨av, cv, rfl, hav⟩ := owns_forms hv
  obtain ⟨W1, hW1⟩ : ∃ W1, w.alloc (.cells #[.int .i64 (n : Int), .int .i64 (nx : Int), .slice av k cv] 94) = W1 := ⟨_, rfl⟩
  have k1 : Kp [] w W1 := by rw [← hW1]; exact (Kp.refl _ _).alloc _
  have hs1 : W1.heap.size = w.heap.size + 1 := by rw [← hW1]; simp
  have hb1 : W1.heap[w.heap.size]? = some (.cells #[.int .i64 (n : Int), .int .i64 (nx : Int), .slice av k cv] 94 (0, 0)) := by rw [← hW1]; exact heap_alloc_new w _
  obtain ⟨W2, hW2⟩ : ∃ W2, W1.alloc (.cells #[.slice none 0 0] 146) = W2 := ⟨_, rfl⟩
  have k12 : Kp [] W1 W2 := by rw [← hW2]; exact (Kp.refl _ _).alloc _
  have hs2 : W2.heap.size = w.heap.size + 2 := by rw [← hW2]; simp; omega
  have hb2 := k12.heap hb1 (by simp)
  have hw2 : W2.heap[w.heap.size + 1]? = some (.cells #[.slice none 0 0] 146 (0, 0)) := by rw [← hW2, ← hs1]; exact heap_alloc_new W1 _
  have hWr : Wr W2 (w.heap.size + 1) (w.heap.size + 2) [] := ⟨_, hw2, World.ownsRow_nil _ _ _ _⟩
  have k2 := k1.next k12
  have HV := hide (k2.owns hv (by simp))
  have HVn : Hid ((Value.slice av k cv).ownBlock ≠ some (w.heap.size + 1)) := fun e => by have := (hv.lt _ e).2; omega
  have HB := hide hb2
  have HW := hide hWr
  have cells : ∀ W, Kb 5 [w.heap.size + 1] (w.heap.size + 2) W2 W → W.cell? ⟨w.heap.size, 0, none⟩ = some (.int .i64 (n : Int)) ∧ W.cell? ⟨w.heap.size, 1, none⟩ = some (.int .i64 (nx : Int)) ∧ W.cell? ⟨w.heap.size, 2, none⟩ = some (.slice av k cv) := fun W hk => by
    have h := hk.heap (by simp) HB.out (by decide)
    refine ⟨?_, ?_, ?_⟩ <;> simp [World.cell?, h]
  have CE := hide cells
  obtain ⟨c0, c1, c2⟩ := cells W2 (Kb.refl _ _ _ _)
  clear hv hb1 hb2 hw2 hWr cells
  go_enter Tryz.func45, Tryz.ntmps45
  go_wp2_with (first | simp only [hW1] | simp only [hW2])
  refine (wtext_any (w.heap.size + 1) (w.heap.size + 2) [] ⟨#[67]⟩ W2 HW.out (by omega) (by decide)).mono ?_
  rintro e W3 ⟨rfl, hw3, k3⟩
  obtain ⟨c03, c13, c23⟩ := CE.out W3 k3
  have hz3 := k3.size
  have HW3 := hide hw3
  clear hw3 hW1 hW2
  go_wp2_with fail
  refine (wnum_any (w.heap.size + 1) (w.heap.size + 2) _ n W3 HW3.out (by omega) (by simp) hn).mono ?_
  rintro e W4 ⟨rfl, hw4, k4⟩
  have k24 := k3.next k4
  obtain ⟨c04, c14, c24⟩ := CE.out W4 k24
  have hz4 := k4.size
  have l1 := numB_len n
  have HW4 := hide hw4
  clear hw4
  go_wp2_with fail
  refine (wnum_any (w.heap.size + 1) (w.heap.size + 2) _ nx W4 HW4.out (by omega) (by simp; omega) hnx).mono ?_
  rintro e W5 ⟨rfl, hw5, k5⟩
  have k25 := k24.next k5
  obtain ⟨c05, c15, c25⟩ := CE.out W5 k25
  have hz5 := k5.size
  have l2 := numB_len nx
  have HW5 := hide hw5
  clear hw5
  go_wp2_with fail
  refine (wnum_any (w.heap.size + 1) (w.heap.size + 2) _ k W5 HW5.out (by omega) (by simp; omega) (by omega)).mono ?_
  rintro e W6 ⟨rfl, hw6, k6⟩
  have k26 := k25.next k6
  obtain ⟨c06, c16, c26⟩ := CE.out W6 k26
  have hz6 := k6.size
  have HW6 : Hid (Wr W6 (w.heap.size + 1) (w.heap.size + 2) (comD n nx k)) := by
    show Wr _ _ _ _
    unfold comD
    simpa using hw6
  have hd13 := comD_len n nx k
  clear hw6 HW HW3 HW4 HW5
  go_wp2_with fail
  go_loopw [21] (fun iv wr => ∃ (i : Nat), i ≤ k ∧ iv = .int .i64 (i : Int) ∧ Hid (Wr wr (w.heap.size + 1) (w.heap.size + 2) (comD n nx k ++ (Ps.take i).flatMap comP)) ∧ Hid (Kb 5 [w.heap.size + 1] (w.heap.size + 2) W2 wr)) (fun iv _ => k - (intOf iv).toNat)
  case atStart => exact ⟨0, by omega, rfl, by show Wr _ _ _ _; simpa using HW6.out, k26⟩
  case round =>
    obtain ⟨i, hi, rfl, hO, hK⟩ := hrel
    have hzr := hK.out.size
    have hall : ∀ t ∈ Ps.take i, t.T.length ≤ 60 := fun t ht => (hnum t (List.mem_of_mem_take ht)).2.1
    have hfl := flat_len (Ps.take i) hall
    rw [List.length_take] at hfl
    by_cases hlt : i < k
    · obtain ⟨g, rfl⟩ := hav (by omega)
      have hiL : i < Ps.length := by omega
      obtain ⟨e0, e1, e2⟩ := tsV_get Ps i hiL
      have hrow := hK.out.owns HV.out (by decide) (fun x hx => by simp at hx; subst hx; exact HVn.out)
      have q0 := (hrow.cellAt (i * 3) (by omega)).trans e0
      have q1 := (hrow.cellAt (i * 3 + 1) (by omega)).trans e1
      have q2 := (hrow.cellAt (i * 3 + 2) (by omega)).trans e2
      obtain ⟨hnm, hT60, hdd⟩ := hnum _ (List.getElem_mem hiL)
      have htk := flat_take Ps i hiL
      obtain ⟨t, ht⟩ : ∃ t, Ps[i] = t := ⟨_, rfl⟩
      rw [ht] at q0 q1 q2 hnm hT60 hdd htk
      obtain ⟨W4', hW4⟩ : ∃ W4, wr.alloc (.cells #[.int .i64 (t.num : Int), .int .i64 (t.T.length : Int), .int .u64 (t.dead : Int)] 143) = W4 := ⟨_, rfl⟩
      have k4' : Kb 5 [w.heap.size + 1] (w.heap.size + 2) wr W4' := by rw [← hW4]; exact (Kb.refl _ _ _ _).alloc _
      have hb4 : W4'.heap[wr.heap.size]? = some (.cells #[.int .i64 (t.num : Int), .int .i64 (t.T.length : Int), .int .u64 (t.dead : Int)] 143 (0, 0)) := by rw [← hW4]; exact heap_alloc_new wr _
      have hWr4 : Wr W4' (w.heap.size + 1) (w.heap.size + 2) (comD n nx k ++ (Ps.take i).flatMap comP) := hO.out.kp (S := []) (by rw [← hW4]; exact (Kp.refl _ _).alloc _) (by simp) (by simp)
      have z3 : ∀ W, Kb 5 [w.heap.size + 1] (w.heap.size + 2) W4' W → W.cell? ⟨wr.heap.size, 0, none⟩ = some (.int .i64 (t.num : Int)) ∧ W.cell? ⟨wr.heap.size, 1, none⟩ = some (.int .i64 (t.T.length : Int)) ∧ W.cell? ⟨wr.heap.size, 2, none⟩ = some (.int .u64 (t.dead : Int)) := fun W hk => by
        have h := hk.heap (by simp; omega) hb4 (by decide)
        refine ⟨?_, ?_, ?_⟩ <;> simp [World.cell?, h]
      obtain ⟨y0, y1, y2⟩ := z3 W4' (Kb.refl _ _ _ _)
      have Z3 := hide z3
      have HTK := hide htk
      have HW4 := hide hWr4
      have hz4' := k4'.size
      have j1 : (0 : Int) ≤ (i : Int) := by omega
      have j2 : (i : Int) < (k : Int) := by omega
      obtain ⟨acc, hacc⟩ : ∃ acc, comD n nx k ++ (Ps.take i).flatMap comP = acc := ⟨_, rfl⟩
      rw [hacc] at HW4
      have hal : acc.length ≤ 16000013 := by rw [← hacc, List.length_append]; omega
      have HACC := hide hacc
      clear hrow e0 e1 e2 htk hb4 hWr4 z3 hacc hO ht
      go_wp2_with (simp only [hW4])
      clear hW4
      refine (wnum_any (w.heap.size + 1) (w.heap.size + 2) acc t.num W4' HW4.out (by omega) (by omega) hnm).mono ?_
      rintro e V1 ⟨rfl, hv1, b1⟩
      obtain ⟨y01, y11, y21⟩ := Z3.out V1 b1
      have l3 := numB_len t.num
      have HV1 := hide hv1
      have hy1 := b1.size
      clear hv1
      go_wp2_with fail
      refine (wnum_any (w.heap.size + 1) (w.heap.size + 2) _ t.T.length V1 HV1.out (by omega) (by rw [List.length_append]; omega) (by omega)).mono ?_
      rintro e V2 ⟨rfl, hv2, b2⟩
      have b12 := b1.next b2
      obtain ⟨y02, y12, y22⟩ := Z3.out V2 b12
      have l4 := numB_len t.T.length
      have hy2 := b2.size
      have HV2 := hide hv2
      clear hv2 HV1 HW4
      go_wp2_with fail
      go_loopw [6] (fun fv wi => ∃ (j : Nat), 8 * j < t.T.length + 8 ∧ fv = .int .i64 ((8 * j : Nat) : Int) ∧ Hid (Wr wi (w.heap.size + 1) (w.heap.size + 2) (acc ++ numB t.num ++ numB t.T.length ++ deadB t.dead j)) ∧ Hid (Kb 5 [w.heap.size + 1] (w.heap.size + 2) W4' wi)) (fun fv _ => t.T.length + 8 - (intOf fv).toNat)
      case atStart => exact ⟨0, by omega, rfl, by show Wr _ _ _ _; simpa [deadB] using HV2.out, b12⟩
      case round =>
        obtain ⟨j, hj, rfl, hI, hKi⟩ := hrel
        obtain ⟨x0, x1, x2⟩ := Z3.out _ hKi.out
        have hzi := hKi.out.size
        by_cases hlt2 : 8 * j < t.T.length
        · have hlenA : (acc ++ numB t.num ++ numB t.T.length ++ deadB t.dead j).length ≤ 200000000 := by
            simp only [List.length_append, deadB_len]
            omega
          have hI2 : ((8 * j : Nat) : Int) < (t.T.length : Int) := by omega
          have h64 : 8 * j < 64 := by omega
          obtain ⟨m, hm⟩ : ∃ m, t.dead / 2 ^ (8 * j) % 256 = m := ⟨_, rfl⟩
          have hm256 : m < 256 := by rw [← hm]; exact Nat.mod_lt _ (by omega)
          have HM := hide hm
          clear hm
          go_wp2_with fail
          rw [byte_cast t.dead j m HM.out]
          refine (wbyte_any (w.heap.size + 1) (w.heap.size + 2) _ m wr hI.out (by omega) hlenA hm256).mono ?_
          rintro e V3 ⟨rfl, hv3, b3⟩
          have hI3 : Hid (Wr V3 (w.heap.size + 1) (w.heap.size + 2) (acc ++ numB t.num ++ numB t.T.length ++ deadB t.dead (j + 1))) := by
            show Wr _ _ _ _
            rw [deadB_snoc, ← List.append_assoc, HM.out]
            exact hv3
          have hK3 : Hid (Kb 5 [w.heap.size + 1] (w.heap.size + 2) W4' V3) := hKi.out.next b3
          clear hv3 b3
          go_wp2_with fail
          go_roundw
          case rel => exact ⟨j + 1, by omega, by go_num, hI3, hK3⟩
          case measure => simp [intOf]; omega
        · have hjj : j = (t.T.length + 7) / 8 := by omega
          have hI2 : ¬ ((8 * j : Nat) : Int) < (t.T.length : Int) := by omega
          have hfin : Hid (Wr wr (w.heap.size + 1) (w.heap.size + 2) (comD n nx k ++ (Ps.take (i + 1)).flatMap comP)) := by
            show Wr _ _ _ _
            rw [HTK.out, ← List.append_assoc, HACC.out]
            unfold comP
            have := hI.out
            rw [hjj] at this
            simpa [List.append_assoc] using this
          have hKf : Hid (Kb 5 [w.heap.size + 1] (w.heap.size + 2) W2 wr) := (hK.out.next k4').next hKi.out
          go_wp2_with fail
          exact ⟨⟨i + 1, by omega, by go_num, hfin, hKf⟩, by simp [intOf]; omega⟩
    · have hin : i = k := by omega
      subst hin
      have htk : Ps.take i = Ps := List.take_of_length_le (by omega)
      have hO' := hO.out
      rw [htk] at hO' hfl
      have hse := sealed_any (w.heap.size + 1) (w.heap.size + 2) _ wr hO' (by unfold comD; simp) (by rw [List.length_append]; omega)
      have hlow := hK.out.below (B := w.heap.size) (by omega) (by simp) (by omega)
      have kw : Kp [] w wr := Kp.of_below _ ((k2.below (B := w.heap.size) (Nat.le_refl _) (by simp)).trans hlow)
      have hkk : comD n nx i ++ Ps.flatMap comP = comH n nx Ps := by unfold comH; rw [hk]
      rw [hkk] at hse
      have hzw := kw.size
      clear hO'
      go_wp2_with fail
      refine hse.mono ?_
      rintro e w9 ⟨v9, rfl, hv9, k9⟩
      have hfin : w9.ownsRow w.heap.size 5 1 v9 (comB n nx Ps).length (byV (comB n nx Ps)) := by
        have e1 : (comB n nx Ps).length = (comH n nx Ps).length + 4 := by unfold comB; rw [List.length_append, sumB_len]
        rw [e1]
        exact ownsRow_base_a hv9 (by omega)
      have kfin := kw.next k9
      obtain ⟨a9, c9, rfl, _⟩ := owns_forms hv9
      clear hse hv9
      go_wp2_with fail
      go_ret
      exact ⟨_, rfl, hfin, kfin⟩
theorem rows_upTo (T : List Tx) (h : ∀ t ∈ T, t.2.length ≤ 60) : RowsAre (upTo (rowsOf T) T.length 0) (rowsOf T) (termsOf T).length := by
  have hl := rows_len T
  refine ⟨fun d h i hi => ?_, fun d h => ?_, fun d hd => ?_, fun d hd x hx => ?_⟩
  · unfold upTo
    rw [if_pos (.inl (by omega)), List.getElem?_eq_getElem h]
    simp [hi]
  · unfold upTo
    rw [if_pos (.inl (by omega)), List.getElem?_eq_getElem h]
    simp
  · have := rows_small T h _ (List.getElem_mem hd)
    omega
  · exact rows_lt T _ (List.getElem_mem hd) x hx
set_option maxHeartbeats 1000000 in
/-- A segment's file. -/
theorem segFile_any (lo hi q num M : Nat) (T : List Tx) (iv tv : Value) (w : World) (h : SegIs w lo hi q num T iv tv M) (hf : Fine T) :
    Calls Tryz.prog 41 #[.pointer (some ⟨q, 0, none⟩)] w fun e w' => ∃ v, e = .returned v ∧ w'.ownsRow w.heap.size 5 1 v (fileT T).length (byV (fileT T)) ∧ Kp [] w w' := by
  have hsm : ∀ t ∈ T, t.2.length ≤ 60 := hf.few
  have hnt := allW_le T hsm
  have hlen := hf.len
  have htx := texts_any M (cntTo (rowsOf T) T.length) lo (upTo (rowsOf T) T.length 0) iv tv (T.map Prod.fst) (termsOf T) (rowsOf T) w h.at' (by rw [List.length_map]; exact h.ids) h.terms (rows_upTo T hsm) (by rw [rows_len, List.length_map]) (by rw [List.length_map]; exact hlen) (by omega)
  rw [texts_back] at htx
  obtain ⟨M2, aa, ca, st, H, hc⟩ := h.cells
  obtain ⟨ia, ic, ei, _⟩ := owns_forms h.ids
  obtain ⟨ta, tc, et, _⟩ := owns_forms h.terms
  subst ei et
  obtain ⟨c1, c2, c3⟩ : w.cell? ⟨q, 1, none⟩ = some (.slice ia T.length ic) ∧ w.cell? ⟨q, 2, none⟩ = some (.slice ta (termsOf T).length tc) ∧ w.cell? ⟨q, 3, none⟩ = some (.map (some M)) := by refine ⟨?_, ?_, ?_⟩ <;> simp [World.cell?, hc]
  clear h hc
  go_enter Tryz.func41, Tryz.ntmps41
  go_wp2_with fail
  refine htx.mono ?_
  rintro e w1 ⟨v, vs, rfl, hT, k1⟩
  have hwr := write_any w.heap.size v T vs w1 hT hf
  obtain ⟨av, cv, ev, _⟩ := owns_forms hT.row
  subst ev
  have hz := k1.size
  clear htx
  go_wp2_with fail
  refine hwr.mono ?_
  rintro e w2 ⟨v', rfl, hv', k2⟩
  have hl : (fileT T).length = (bodyT T).length + 4 := by unfold fileT; rw [List.length_append, sumB_len]
  have hfin : w2.ownsRow w.heap.size 5 1 v' (fileT T).length (byV (fileT T)) := by rw [hl]; exact owns_low hv' hz
  have kf := k1.next k2
  obtain ⟨a', c', ev', _⟩ := owns_forms hv'
  subst ev'
  clear hwr hv' hT
  go_wp2_with fail
  go_ret
  exact ⟨_, rfl, hfin, kf⟩
/-- What a disk holds: by its name a file's bytes, and whether it is synced. -/
abbrev Dk := List UInt8 → Option (List UInt8 × Bool)
def absF (F : List Fl) : Dk := fun x => (F.find? fun f => decide (f.nm = x)).map fun f => (f.bs, f.sy)
def updD (A : Dk) (x : List UInt8) (v : Option (List UInt8 × Bool)) : Dk := fun y => if y = x then v else A y
theorem absF_some {F : List Fl} {x : List UInt8} {p : List UInt8 × Bool} (h : absF F x = some p) : ∃ f ∈ F, f.nm = x ∧ p = (f.bs, f.sy) := by
  unfold absF at h
  cases hf : F.find? (fun f => decide (f.nm = x)) with
  | none => rw [hf] at h; simp at h
  | some f =>
    rw [hf] at h
    have h1 := List.mem_of_find?_eq_some hf
    have h2 := List.find?_some hf
    exact ⟨f, h1, by simpa using h2, by simpa using h.symm⟩
theorem absF_mem {F : List Fl} (hnd : (nms F).Nodup) {f : Fl} (hf : f ∈ F) : absF F f.nm = some (f.bs, f.sy) := by
  cases h : F.find? (fun g => decide (g.nm = f.nm)) with
  | none =>
    have := List.find?_eq_none.1 h f hf
    simp at this
  | some g =>
    have h1 := List.mem_of_find?_eq_some h
    have h2 : g.nm = f.nm := by simpa using List.find?_some h
    have : g = f := inj_nodup (f := Fl.nm) hnd g h1 f hf h2
    unfold absF
    rw [h, this]
    rfl
theorem absF_is {F : List Fl} (x : List UInt8) : (absF F x).isSome = true ↔ x ∈ nms F := by
  constructor
  · intro h
    obtain ⟨p, hp⟩ := Option.isSome_iff_exists.1 h
    obtain ⟨f, hf, e, _⟩ := absF_some hp
    exact List.mem_map.2 ⟨f, hf, e⟩
  · intro h
    obtain ⟨f, hf, e⟩ := List.mem_map.1 h
    cases h2 : F.find? (fun g => decide (g.nm = x)) with
    | none =>
      have := List.find?_eq_none.1 h2 f hf
      simp [e] at this
    | some g => unfold absF; rw [h2]; rfl
theorem absF_none {F : List Fl} {x : List UInt8} (h : x ∉ nms F) : absF F x = none := by
  cases hx : absF F x with
  | none => rfl
  | some p => exact absurd ((absF_is x).1 (by rw [hx]; rfl)) h
theorem absF_lack (F : List Fl) (x : List UInt8) : absF (lack F x) = updD (absF F) x none := by
  funext y
  unfold updD
  by_cases e : y = x
  · rw [if_pos e]
    exact absF_none (fun h => ((lack_nms F x y).1 h).2 e)
  · rw [if_neg e]
    unfold absF lack
    congr 1
    induction F with
    | nil => rfl
    | cons f r ih =>
      by_cases e2 : f.nm = x
      · rw [List.filter_cons_of_neg (by simp [e2]), ih, List.find?_cons_of_neg (by simp [e2]; exact fun e3 => e e3.symm)]
      · rw [List.filter_cons_of_pos (by simp [e2])]
        by_cases e3 : f.nm = y
        · rw [List.find?_cons_of_pos (by simp [e3]), List.find?_cons_of_pos (by simp [e3])]
        · rw [List.find?_cons_of_neg (by simp [e3]), List.find?_cons_of_neg (by simp [e3]), ih]
theorem absF_put (F : List Fl) (f : Fl) : absF (lack F f.nm ++ [f]) = updD (absF F) f.nm (some (f.bs, f.sy)) := by
  funext y
  have hl := congrFun (absF_lack F f.nm) y
  unfold updD at hl ⊢
  unfold absF at hl ⊢
  rw [List.find?_append]
  by_cases e : y = f.nm
  · rw [if_pos e] at hl ⊢
    have : (lack F f.nm).find? (fun g => decide (g.nm = y)) = none := by simpa using hl
    rw [this]
    simp [e]
  · rw [if_neg e] at hl ⊢
    cases h : (lack F f.nm).find? (fun g => decide (g.nm = y)) with
    | none =>
      rw [h] at hl
      rw [← hl]
      simp [Ne.symm e]
    | some g =>
      rw [h] at hl
      rw [← hl]
      rfl
def tN : List UInt8 := [116]
end Go.Proofs.YtnffagpdnklnkaaGreatDoor.Pak
namespace Go.Proofs.YtnffagpdnklnkaaGreatDoor.Pak
open Go.RowKit
theorem dig_inj {a b : Nat} (ha : a < 10) (hb : b < 10) (h : UInt8.ofNat (48 + a) = UInt8.ofNat (48 + b)) : a = b := by
  have := congrArg UInt8.toNat h
  simp at this
  omega
theorem decDigits_inj : ∀ (a b : Nat), Lib.decDigits a = Lib.decDigits b → a = b := by
  intro a
  induction a using Nat.strongRecOn with
  | _ a ih =>
    intro b h
    have hla := Lib.decDigits_length a
    have hlb := Lib.decDigits_length b
    by_cases h1 : a < 10
    · by_cases h2 : b < 10
      · rw [Lib.decDigits_one h1, Lib.decDigits_one h2] at h
        exact dig_inj h1 h2 (by simpa using h)
      · exfalso
        have e1 := Lib.nDigits_small h1
        have e2 := Lib.nDigits_big h2
        have e3 : 1 ≤ Lib.nDigits (b / 10) := by
          by_cases h3 : b / 10 < 10
          · rw [Lib.nDigits_small h3]; omega
          · rw [Lib.nDigits_big h3]; omega
        rw [h] at hla
        omega
    · by_cases h2 : b < 10
      · exfalso
        have e1 := Lib.nDigits_small h2
        have e2 := Lib.nDigits_big h1
        have e3 : 1 ≤ Lib.nDigits (a / 10) := by
          by_cases h3 : a / 10 < 10
          · rw [Lib.nDigits_small h3]; omega
          · rw [Lib.nDigits_big h3]; omega
        rw [h] at hla
        omega
      · rw [Lib.decDigits, dif_neg h1] at h
        rw [Lib.decDigits.eq_1 b, dif_neg h2] at h
        have h3 := List.append_inj' h (by simp)
        have h4 := ih (a / 10) (by omega) (b / 10) h3.1
        have h5 := dig_inj (a := a % 10) (b := b % 10) (by omega) (by omega) (by simpa using h3.2)
        omega
theorem digs_inj {a b : Nat} (h : digs a = digs b) : a = b := by
  unfold digs Lib.itoa at h
  rw [if_neg (by omega), if_neg (by omega)] at h
  exact decDigits_inj a b (by simpa using h)
theorem segN_inj {a b : Nat} (h : segN a = segN b) : a = b := digs_inj (by unfold segN at h; simpa using h)
theorem seg_com (a b : Nat) : segN a ≠ comN b := by unfold segN comN; simp
theorem seg_t (a : Nat) : segN a ≠ tN := by unfold segN tN; simp
theorem com_t (a : Nat) : comN a ≠ tN := by unfold comN tN; simp
theorem segN_len (n : Nat) (h : n ≤ 1000000000000) : (segN n).length ≤ 100 := by have := digs_le n h; unfold segN; simp; omega
theorem comN_len (n : Nat) (h : n ≤ 1000000000000) : (comN n).length ≤ 100 := by have := digs_le n h; unfold comN; simp; omega
end Go.Proofs.YtnffagpdnklnkaaGreatDoor.Pak
namespace Go.Proofs.YtnffagpdnklnkaaGreatDoor.Pak
open Go.RowKit Go.Proofs.YtnffagpdnklnkaaGreatDoor Go.Proofs.YtnffagpdnklnkaaGreatDoor.Spl SiftM
/-- The class of so many docs. -/
def clsG (fac : Nat) : Nat → Nat → Nat
  | 0, _ => 0
  | n + 1, d => if fac ≤ d then clsG fac n (d / fac) + 1 else 0
def clsF (fac d : Nat) : Nat := clsG fac (d + 1) d
theorem clsG_eq (fac : Nat) (hf : 2 ≤ fac) : ∀ (d n m : Nat), d < n → d < m → clsG fac n d = clsG fac m d := by
  intro d
  induction d using Nat.strongRecOn with
  | _ d ih =>
    intro n m hn hm
    obtain ⟨n, rfl⟩ : ∃ k, n = k + 1 := ⟨n - 1, by omega⟩
    obtain ⟨m, rfl⟩ : ∃ k, m = k + 1 := ⟨m - 1, by omega⟩
    unfold clsG
    by_cases h : fac ≤ d
    · rw [if_pos h, if_pos h]
      have h1 : d / fac < d := Nat.div_lt_self (by omega) (by omega)
      rw [ih (d / fac) h1 n m (by omega) (by omega)]
    · rw [if_neg h, if_neg h]
theorem clsF_up (fac d : Nat) (hf : 2 ≤ fac) (h : fac ≤ d) : clsF fac d = clsF fac (d / fac) + 1 := by
  have h1 : d / fac < d := Nat.div_lt_self (by omega) (by omega)
  show clsG fac (d + 1) d = _
  unfold clsG
  rw [if_pos h]
  unfold clsF
  rw [clsG_eq fac hf (d / fac) d (d / fac + 1) h1 (by omega)]
theorem clsF_no (fac d : Nat) (h : ¬ fac ≤ d) : clsF fac d = 0 := by
  show clsG fac (d + 1) d = _
  unfold clsG
  rw [if_neg h]
theorem clsF_le (fac d : Nat) (hf : 2 ≤ fac) : clsF fac d ≤ d := by
  induction d using Nat.strongRecOn with
  | _ d ih =>
    by_cases h : fac ≤ d
    · have h1 : d / fac < d := Nat.div_lt_self (by omega) (by omega)
      rw [clsF_up fac d hf h]
      have := ih _ h1
      omega
    · rw [clsF_no fac d h]; omega
set_option maxHeartbeats 1000000 in
theorem classOf_any (d fac : Nat) (w : World) (hd : d ≤ 1000) (hf : 2 ≤ fac) (hf2 : fac ≤ 1000) :
    Calls Tryz.prog 113 #[.int .i64 (d : Int), .int .i64 (fac : Int)] w fun e w' => e = .returned (.int .i64 (clsF fac d : Nat)) ∧ w' = w := by
  go_enter Tryz.func113, Tryz.ntmps113
  go_wp2_with fail
  go_loopw [0, 5] (fun dv cv wr => ∃ d' c : Nat, d' ≤ d ∧ c + clsF fac d' = clsF fac d ∧ dv = .int .i64 (d' : Int) ∧ cv = .int .i64 (c : Int) ∧ wr = w) (fun dv _ _ => (intOf dv).toNat)
  case atStart => exact ⟨d, 0, by omega, by omega, rfl, rfl, rfl⟩
  case round =>
    obtain ⟨d', c, hd', hc, rfl, rfl, rfl⟩ := hrel
    have hle := clsF_le fac d hf
    by_cases h : fac ≤ d'
    · have hup := hide (clsF_up fac d' hf h)
      have h1 : d' / fac < d' := Nat.div_lt_self (by omega) (by omega)
      have hI : (fac : Int) ≤ (d' : Int) := by omega
      have h0 : ((fac : Int) == 0) = false := by rw [beq_eq_false_iff_ne]; omega
      obtain ⟨q, hq⟩ : ∃ q, d' / fac = q := ⟨_, rfl⟩
      have hqI : ((d' : Int) / (fac : Int)) = (q : Int) := by rw [← hq]; rfl
      rw [hq] at h1 hup
      have h2 := hup.out
      go_wp2_with fail
      go_roundw
      case rel => exact ⟨q, c + 1, by omega, by omega, by go_num, by go_num, by trivial⟩
      case measure => simp [intOf]; omega
    · have hno := hide (clsF_no fac d' h)
      have hI : ¬ (fac : Int) ≤ (d' : Int) := by omega
      have h3 := hno.out
      go_wp2_with fail
      go_ret
      exact ⟨by go_num, by trivial⟩
end Go.Proofs.YtnffagpdnklnkaaGreatDoor.Pak
