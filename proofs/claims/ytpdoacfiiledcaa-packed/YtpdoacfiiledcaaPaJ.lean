import Derived.Test.YtpdoacfiiledcaaPaK
set_option linter.unusedVariables false
set_option maxRecDepth 4000
namespace Go.Proofs.Ytpdoacfiiledcaa.Pak
open Go.RowKit Go.Proofs.Ytpdoacfiiledcaa SiftM

theorem numB_len (n : Nat) : (numB n).length ≤ 4 := numG_len 3 n
def lstP (P : List Po) (k : Nat) : Nat := if k = 0 then 0 else ((P.map Prod.fst).getD (k - 1) 0) + 1

theorem ent_split : ∀ (P : List Po) (least k : Nat) (hk : k < P.length), entB least (P.take (k + 1)) = entB least (P.take k) ++ (numB (P[k].1 - (if k = 0 then least else (P.map Prod.fst).getD (k - 1) 0 + 1)) ++ (numB P[k].2.length ++ riseB 0 P[k].2))
  | x :: r, least, 0, hk => by simp [entB]
  | x :: r, least, k + 1, hk => by
    have ih := ent_split r (x.1 + 1) k (by simpa using hk)
    simp only [List.take_succ_cons, entB, List.append_assoc, List.map_cons]
    rw [ih]
    cases k with
    | zero => simp
    | succ k => simp

theorem ok_at (N : Nat) : ∀ (P : List Po) (least k : Nat) (hk : k < P.length), OkP N least P →
    (if k = 0 then least else (P.map Prod.fst).getD (k - 1) 0 + 1) ≤ P[k].1 ∧ P[k].1 < N ∧ 1 ≤ P[k].2.length ∧ P[k].2.length ≤ 60 ∧ Rs 0 P[k].2 ∧ ∀ p ∈ P[k].2, p ≤ 59
  | x :: r, least, 0, hk, h => ⟨by simpa using h.1, h.2.1, h.2.2.1, h.2.2.2.1, h.2.2.2.2.1, h.2.2.2.2.2.1⟩
  | x :: r, least, k + 1, hk, h => by
    have ih := ok_at N r (x.1 + 1) k (by simpa using hk) h.2.2.2.2.2.2
    cases k with
    | zero => simpa using ih
    | succ k => simpa using ih

theorem ent_len (N : Nat) : ∀ (P : List Po) (least : Nat), OkP N least P → (entB least P).length ≤ 12 * cntP P
  | [], _, _ => by simp [entB]
  | x :: r, least, h => by
    have ih := ent_len N r (x.1 + 1) h.2.2.2.2.2.2
    have h1 := h.2.2.1
    have h2 := numB_len (x.1 - least)
    have h3 := numB_len x.2.length
    have h4 := riseB_len x.2 0
    simp only [entB, cntP, List.length_append]
    omega

theorem cntP_take : ∀ (P : List Po) (k : Nat), cntP (P.take k) ≤ cntP P
  | [], k => by simp
  | x :: r, 0 => by simp [cntP]
  | x :: r, k + 1 => by have := cntP_take r k; simp [cntP]; exact this

theorem ok_take (N : Nat) : ∀ (P : List Po) (least k : Nat), OkP N least P → OkP N least (P.take k)
  | [], _, k, h => by simp [OkP]
  | x :: r, least, 0, h => trivial
  | x :: r, least, k + 1, h => ⟨h.1, h.2.1, h.2.2.1, h.2.2.2.1, h.2.2.2.2.1, h.2.2.2.2.2.1, ok_take N r (x.1 + 1) k h.2.2.2.2.2.2⟩

theorem cnt_at : ∀ (P : List Po) (k : Nat) (hk : k < P.length), P[k].2.length ≤ cntP P
  | x :: r, 0, hk => by simp [cntP]
  | x :: r, k + 1, hk => by
    have := cnt_at r k (by simpa using hk)
    simp [cntP]; omega

theorem PostIs.kb {t : TypeId} {S : List Nat} {b base : Nat} {w w' : World} {v : Value} {P : List Po} {pvs : List Value} (h : PostIs w base v P pvs) (k : Kb t S b w w') (h1 : 103 ≠ t) (h2 : 3 ≠ t) (hS : ∀ x ∈ S, x ∉ foot v pvs) : PostIs w' base v P pvs :=
  ⟨h.len, k.owns h.row h1 (fun x hx hg => hS x hx (foot_row hg)), fun i hi h3 => k.owns (h.each i hi h3) h2 (fun x hx hg => hS x hx (foot_each h3 hg)), h.apart⟩

set_option maxHeartbeats 1000000 in
theorem wterm_any (W base b2 N : Nat) (l t : List UInt8) (v : Value) (P : List Po) (pvs : List Value) (w : World) (h : Wr w W base l) (hp : PostIs w b2 v P pvs) (hb : base ≤ w.heap.size) (hok : OkP N 0 P) (hN : N ≤ 60) (ht : t.length ≤ 8) (hl : l.length + 12 * cntP P ≤ 900000) :
    Calls Try.prog 33 #[.pointer (some ⟨W, 0, none⟩), .string ⟨t.toArray⟩, v] w fun e w' => e = .returned (.tuple #[]) ∧ Wr w' W base (l ++ termB t P) ∧ Kb 5 [W] base w w' := by
  obtain ⟨av, cv, rfl, hav⟩ := owns_forms hp.row
  have hPl := okP_len N P 0 hok
  have hsz : (ByteArray.mk t.toArray).size = t.length := by show t.toArray.size = t.length; simp
  obtain ⟨v0, hW0, hown0⟩ := id h
  have hWf : W ∉ foot (.slice av P.length cv) pvs := foot_ne hp hW0 (by decide) (by decide)
  have hWlt := heap_lt hW0
  have hc1 := numB_len t.length
  have hc2 := numB_len P.length
  have HW := hide h
  have HP := hide hp
  have HOK := hide hok
  have HF := hide hWf
  clear h hp hok hWf hW0 hown0
  go_enter Try.func33, Try.ntmps33
  go_wp2_with fail
  refine (wnum_any W base l t.length w HW.out hb (by omega) (by omega)).mono ?_
  rintro e w1 ⟨rfl, hw1, hk1⟩
  have hz1 := hk1.size
  have HW1 := hide hw1
  clear hw1
  go_wp2_with fail
  refine (wtext_any W base _ ⟨t.toArray⟩ w1 HW1.out (by omega) (by rw [hsz]; simp; omega)).mono ?_
  rintro e w2 ⟨rfl, hw2, hk2⟩
  have hz2 := hk2.size
  have HW2 := hide hw2
  clear hw2
  go_wp2_with fail
  refine (wnum_any W base _ P.length w2 HW2.out (by omega) (by simp; omega) (by omega)).mono ?_
  rintro e w3 ⟨rfl, hw3, hk3⟩
  have hz3 := hk3.size
  have k3 : Kb 5 [W] base w w3 := (hk1.next hk2).next hk3
  have hp3 := HP.out.kb k3 (by decide) (by decide) (by simpa using HF.out)
  simp only [List.append_assoc] at hw3
  obtain ⟨pre, hpre⟩ : ∃ pre, l ++ (numB t.length ++ ((ByteArray.mk t.toArray).data.toList ++ numB P.length)) = pre := ⟨_, rfl⟩
  rw [hpre] at hw3
  have hpl : pre.length ≤ l.length + 16 := by rw [← hpre]; simp; omega
  have hfin : Hid (l ++ termB t P = pre ++ entB 0 P) := by
    show _ = _
    rw [← hpre]; unfold termB; simp
  have HW3 := hide hw3
  have HP3 := hide hp3
  clear hw3 hp3 hpre HW HW1 HW2 HP hk1 hk2 hk3
  go_wp2_with fail
  obtain ⟨W1, hW1⟩ : ∃ W1, w3.alloc (.cells #[.int .i64 0] 97) = W1 := ⟨_, rfl⟩
  rw [hW1]
  have k0 : Kp [] w3 W1 := by rw [← hW1]; exact (Kp.refl _ _).alloc _
  have hz0 := k0.size
  have hq0 : Ri W1 w3.heap.size 0 := by rw [← hW1]; exact heap_alloc_new w3 _
  have hw0 := HW3.out.kp k0 (by simp) (by simp)
  have hp0 := HP3.out.kp k0 (by simp)
  have HW0 := hide hw0
  have HQ0 := hide hq0
  have HP0 := hide hp0
  have kb0 : Kb 5 [W] base w W1 := k3.next (Kb.of_kp k0 (by simp))
  obtain ⟨Q, hQ⟩ : ∃ Q, w3.heap.size = Q := ⟨_, rfl⟩
  rw [hQ] at HQ0
  rw [hQ]
  have hQW : Q ≠ W := by omega
  have hQw : w.heap.size ≤ Q := by omega
  have HQf := hide (foot_ne HP0.out HQ0.out (by decide) (by decide))
  clear hw0 hq0 hp0 HW3 HP3 hW1 k0 k3
  go_loopw [22] (fun iv wr => ∃ k : Nat, k ≤ P.length ∧ iv = .int .i64 k ∧ Wr wr W base (pre ++ entB 0 (P.take k)) ∧ Ri wr Q (if k = 0 then 0 else (P.map Prod.fst).getD (k - 1) 0 + 1) ∧ PostIs wr b2 (.slice av P.length cv) P pvs ∧ base ≤ wr.heap.size ∧ Kb 5 [W] base w wr) (fun iv _ => P.length - (intOf iv).toNat)
  case atStart => exact ⟨0, by omega, rfl, by simpa [entB] using HW0.out, HQ0.out, HP0.out, by omega, kb0⟩
  case round =>
    clear HW0 HQ0 HP0 kb0
    obtain ⟨k, hk, rfl, hw1, hq1, hp1, hbase, hkb⟩ := hrel
    by_cases hlt2 : k < P.length
    · obtain ⟨g, rfl⟩ := hav (by omega)
      have hk2 : k < pvs.length := by rw [hp1.len]; exact hlt2
      obtain ⟨c0, c1⟩ := hp1.cells k hlt2 hk2
      have hsp := hide (ent_split P 0 k hlt2)
      obtain ⟨a1, a2, a3, a4, a5, a6⟩ := ok_at N P 0 k hlt2 HOK.out
      have hlen := ent_len N (P.take k) 0 (ok_take N P 0 k HOK.out)
      have hct := cntP_take P k
      have hca := cnt_at P k hlt2
      have hown := hp1.each k hlt2 hk2
      obtain ⟨ap, cp, ev, hap⟩ := owns_forms hown
      rw [ev] at c1 hown
      have hglt := (hp1.row.lt g rfl).2
      have hnx : Hid ((if k + 1 = 0 then 0 else (P.map Prod.fst).getD (k + 1 - 1) 0 + 1) = P[k].1 + 1) := by
        show _ = _
        simp [hlt2]
      obtain ⟨le, hle⟩ : ∃ le, (if k = 0 then 0 else (P.map Prod.fst).getD (k - 1) 0 + 1) = le := ⟨_, rfl⟩
      rw [hle] at a1 hq1 hsp
      obtain ⟨d, hd⟩ : ∃ d, P[k].1 = d := ⟨_, rfl⟩
      obtain ⟨ps, hps⟩ : ∃ ps, P[k].2 = ps := ⟨_, rfl⟩
      rw [hd] at c0 a1 a2 hsp hnx
      rw [hps] at c1 a3 a4 a5 a6 hsp hca hown ev
      have HW := hide hw1
      have HQ := hide hq1
      have HP := hide hp1
      have HO := hide hown
      have HR := hide a5
      have HB := hide a6
      have Hev := hide ev
      have Hlen : Hid ((pre ++ entB 0 (P.take k)).length ≤ 900100) := by
        show _ ≤ _
        rw [List.length_append]
        omega
      clear hw1 hq1 hp1 hown a5 a6 ev hle hd hps hlen
      go_wp2_with fail
      obtain ⟨H, hH⟩ : ∃ H, wr.heap.size = H := ⟨_, rfl⟩
      obtain ⟨wp, hwp⟩ : ∃ wp, wr.alloc (.cells #[.int .i64 (d : Int), .slice ap ps.length cp] 103) = wp := ⟨_, rfl⟩
      have kp0 : Kp [] wr wp := by rw [← hwp]; exact (Kp.refl _ _).alloc _
      have hb0 : wp.heap[H]? = some (.cells #[.int .i64 (d : Int), .slice ap ps.length cp] 103 (0, 0)) := by rw [← hwp, ← hH]; exact heap_alloc_new wr _
      have hwpz := kp0.size
      have hwW := HW.out.kp kp0 (by simp) (by simp)
      have hwQ : Ri wp Q le := kp0.heap HQ.out (by simp)
      have hwP := HP.out.kp kp0 (by simp)
      have hwO := kp0.owns HO.out (by simp)
      have hHf : H ∉ foot (.slice (some ⟨g, 0, none⟩) P.length cv) pvs := fun hx => by
        have := (HP.out.foot_lt H hx).2; omega
      have hWH : W ≠ H := by have := hkb.size; omega
      have hQH : Q ≠ H := by have := heap_lt HQ.out; omega
      have HHf := hide hHf
      rw [hwp, hH]
      have HW' := hide hwW
      have HQ' := hide hwQ
      have HP' := hide hwP
      have HO' := hide hwO
      have HB0 := hide hb0
      have HH := hide hH
      clear hwW hwQ hwP hwO hwp HW HQ HP HO hHf hb0 c0 c1
      have hbase2 : base ≤ wp.heap.size := by omega
      clear hH
      refine (wentry_any W base Q le d _ wp HW'.out HQ'.out hQW hbase2 (by have := Hlen.out; omega) a1 (by omega)).mono ?_
      rintro e w4 ⟨rfl, hw4, hq4, hk4⟩
      have hz4 := hk4.size
      have hWQf : ∀ x ∈ [W, Q], x ∉ foot (.slice (some ⟨g, 0, none⟩) P.length cv) pvs := by
        intro x hx
        simp at hx
        rcases hx with rfl | rfl
        · exact HF.out
        · exact HQf.out
      have hp4 := HP'.out.kb hk4 (by decide) (by decide) hWQf
      have hb4 := hk4.heap (by simp; omega) HB0.out (by decide)
      have ho4 := hk4.owns HO'.out (by decide) (by
        intro x hx hg
        exact hWQf x hx (foot_each hk2 (by rw [Hev.out]; exact hg)))
      obtain ⟨d0, d1, _, _⟩ := rd_cells hb4
      have hH4 := heap_lt hb4
      have kb4 : Kb 5 [W] base w w4 := by
        refine (hkb.next (Kb.of_kp kp0 (by simp))).trans hk4 ?_
        intro x hx
        simp at hx
        rcases hx with rfl | rfl
        · simp
        · right; omega
      have HW4 := hide hw4
      have HQ4 := hide hq4
      have HP4 := hide hp4
      have HO4 := hide ho4
      have HB4 := hide hb4
      clear hw4 hq4 hp4 ho4 hb4 HW' HQ' HP' HO' hk4 kp0 hkb HB0
      go_wp2_with fail
      have hn1 := numB_len (d - le)
      refine (wnum_any W base _ ps.length w4 HW4.out (by omega) (by have := Hlen.out; rw [List.length_append]; omega) (by omega)).mono ?_
      rintro e w5 ⟨rfl, hw5, hk5⟩
      have hz5 := hk5.size
      have hWf1 : ∀ x ∈ [W], x ∉ foot (.slice (some ⟨g, 0, none⟩) P.length cv) pvs := fun x hx => hWQf x (by simp at hx; simp [hx])
      have hp5 := HP4.out.kb hk5 (by decide) (by decide) hWf1
      have hb5 := hk5.heap (by simp; omega) HB4.out (by decide)
      have ho5 := hk5.owns HO4.out (by decide) (by
        intro x hx hg
        exact hWf1 x hx (foot_each hk2 (by rw [Hev.out]; exact hg)))
      have hq5 : Ri w5 Q (d + 1) := hk5.heap (by simp; omega) HQ4.out (by decide)
      obtain ⟨e0, e1, _, _⟩ := rd_cells hb5
      have hH5 := heap_lt hb5
      have HW5 := hide hw5
      have HQ5 := hide hq5
      have HP5 := hide hp5
      have HO5 := hide ho5
      clear hw5 hq5 hp5 ho5 hb5 HW4 HQ4 HP4 HO4 HB4 d0 d1
      go_wp2_with fail
      have hn2 := numB_len ps.length
      refine (wrising_any W base b2 _ _ ps w5 HW5.out HO5.out (by omega) (by have := Hlen.out; rw [List.length_append, List.length_append]; omega) (by omega) HR.out (fun x hx => by have := HB.out x hx; omega)).mono ?_
      rintro e w6 ⟨rfl, hw6, hk6⟩
      have hz6 := hk6.size
      have hp6 := HP5.out.kb hk6 (by decide) (by decide) hWf1
      have hq6 : Ri w6 Q (d + 1) := hk6.heap (by simp; omega) HQ5.out (by decide)
      have HW6 := hide hw6
      have HQ6 := hide hq6
      have HP6 := hide hp6
      have kb6 : Kb 5 [W] base w w6 := (kb4.next hk5).next hk6
      clear hw6 hq6 hp6 HW5 HQ5 HP5 HO5 e0 e1 kb4 hk5 hk6
      go_wp2_with fail
      go_roundw
      case rel =>
        refine ⟨k + 1, by omega, by go_num, ?_, ?_, HP6.out, by omega, kb6⟩
        · rw [hsp.out]
          have := HW6.out
          simpa only [List.append_assoc] using this
        · rw [hnx.out]; exact HQ6.out
      case measure => simp [intOf]; omega
    · have e : k = P.length := by omega
      subst e
      have HW := hide hw1
      clear hw1 hq1 hp1
      go_wp2_with fail
      go_end0
      refine ⟨rfl, ?_, hkb⟩
      rw [hfin.out]
      have := HW.out
      rwa [List.take_length] at this
end Go.Proofs.Ytpdoacfiiledcaa.Pak
