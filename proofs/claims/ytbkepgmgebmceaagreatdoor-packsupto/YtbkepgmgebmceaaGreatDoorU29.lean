import Derived.Test.YtbkepgmgebmceaaGreatDoorU28

set_option linter.unusedVariables false
set_option maxRecDepth 4000
namespace Go.Proofs.YtbkepgmgebmceaaGreatDoor.Pak
open Go.RowKit Go.Proofs.YtbkepgmgebmceaaGreatDoor Go.Proofs.YtbkepgmgebmceaaGreatDoor.Spl SiftM

theorem numB_len (n : Nat) : (numB n).length ≤ 4 := numG_len 3 n
def lstP (P : List Po) (k : Nat) : Nat := if k = 0 then 0 else ((P.map Prod.fst).getD (k - 1) 0) + 1

theorem ent_split : ∀ (P : List Po) (least k : Nat) (hk : k < P.length), entB least (P.take (k + 1)) = entB least (P.take k) ++ (numB (P[k].1 - (if k = 0 then least else (P.map Prod.fst).getD (k - 1) 0 + 1)) ++ (numB P[k].2.length ++ riseB 0 P[k].2))
  | x :: r, least, 0, hk => by simp [entB]
  | x :: r, least, k + 1, hk => by
    have ih := ent_split r (x.1 + 1) k (by simpa using hk)
    simp only [List.take_succ_cons, entB, List.append_assoc, List.map_cons]
    rw [ih]
    cases k with
    | zero => simp
    | succ k => simp

theorem ok_at (N : Nat) : ∀ (P : List Po) (least k : Nat) (hk : k < P.length), OkP N least P →
    (if k = 0 then least else (P.map Prod.fst).getD (k - 1) 0 + 1) ≤ P[k].1 ∧ P[k].1 < N ∧ 1 ≤ P[k].2.length ∧ P[k].2.length ≤ 60 ∧ Rs 0 P[k].2 ∧ ∀ p ∈ P[k].2, p ≤ 59
  | x :: r, least, 0, hk, h => ⟨by simpa using h.1, h.2.1, h.2.2.1, h.2.2.2.1, h.2.2.2.2.1, h.2.2.2.2.2.1⟩
  | x :: r, least, k + 1, hk, h => by
    have ih := ok_at N r (x.1 + 1) k (by simpa using hk) h.2.2.2.2.2.2
    cases k with
    | zero => simpa using ih
    | succ k => simpa using ih

theorem ent_len (N : Nat) : ∀ (P : List Po) (least : Nat), OkP N least P → (entB least P).length ≤ 12 * cntP P
  | [], _, _ => by simp [entB]
  | x :: r, least, h => by
    have ih := ent_len N r (x.1 + 1) h.2.2.2.2.2.2
    have h1 := h.2.2.1
    have h2 := numB_len (x.1 - least)
    have h3 := numB_len x.2.length
    have h4 := riseB_len x.2 0
    simp only [entB, cntP, List.length_append]
    omega

theorem cntP_take : ∀ (P : List Po) (k : Nat), cntP (P.take k) ≤ cntP P
  | [], k => by simp
  | x :: r, 0 => by simp [cntP]
  | x :: r, k + 1 => by have := cntP_take r k; simp [cntP]; exact this

theorem ok_take (N : Nat) : ∀ (P : List Po) (least k : Nat), OkP N least P → OkP N least (P.take k)
  | [], _, k, h => by simp [OkP]
  | x :: r, least, 0, h => trivial
  | x :: r, least, k + 1, h => ⟨h.1, h.2.1, h.2.2.1, h.2.2.2.1, h.2.2.2.2.1, h.2.2.2.2.2.1, ok_take N r (x.1 + 1) k h.2.2.2.2.2.2⟩

theorem cnt_at : ∀ (P : List Po) (k : Nat) (hk : k < P.length), P[k].2.length ≤ cntP P
  | x :: r, 0, hk => by simp [cntP]
  | x :: r, k + 1, hk => by
    have := cnt_at r k (by simpa using hk)
    simp [cntP]; omega

theorem PostIs.kb {t : TypeId} {S : List Nat} {b base : Nat} {w w' : World} {v : Value} {P : List Po} {pvs : List Value} (h : PostIs w base v P pvs) (k : Kb t S b w w') (h1 : 413 ≠ t) (h2 : 3 ≠ t) (hS : ∀ x ∈ S, x ∉ foot v pvs) : PostIs w' base v P pvs :=
  ⟨h.len, k.owns h.row h1 (fun x hx hg => hS x hx (foot_row hg)), fun i hi h3 => k.owns (h.each i hi h3) h2 (fun x hx hg => hS x hx (foot_each h3 hg)), h.apart⟩

set_option maxHeartbeats 2000000 in
theorem wterm_any (W base b2 N : Nat) (l t : List UInt8) (v : Value) (P : List Po) (pvs : List Value) (w : World) (h : Wr w W base l) (hp : PostIs w b2 v P pvs) (hb : base ≤ w.heap.size) (hok : OkP N 0 P) (hN : N ≤ 60) (ht : t.length ≤ 8) (hl : l.length + 12 * cntP P ≤ 900000) :
    Calls Tryz.prog 242 #[.pointer (some ⟨W, 0, none⟩), .string ⟨t.toArray⟩, v] w fun e w' => e = .returned (.tuple #[]) ∧ Wr w' W base (l ++ termB t P) ∧ Kb 5 [W] base w w' := by
  obtain ⟨av, cv, rfl, hav⟩ := owns_forms hp.row
  have hPl := okP_len N P 0 hok
  have hsz : (ByteArray.mk t.toArray).size = t.length := by show t.toArray.size = t.length; simp
  obtain ⟨v0, hW0, hown0⟩ := id h
  have hWf : W ∉ foot (.slice av P.length cv) pvs := foot_ne hp hW0 (by decide) (by decide)
  have hWlt := heap_lt hW0
  have hc1 := numB_len t.length
  have hc2 := numB_len P.length
  have HW := hide h
  have HP := hide hp
  have HOK := hide hok
  have HF := hide hWf
  clear h hp hok hWf hW0 hown0
  go_enter Tryz.func242, Tryz.ntmps242
  go_wp2_with fail
  refine (wnum_any W base l t.length w HW.out hb (by omega) (by omega)).mono ?_
  rintro e w1 ⟨rfl, hw1, hk1⟩
  have hz1 := hk1.size
  have HW1 := hide hw1
  clear hw1
  go_wp2_with fail
  refine (wtext_any W base _ ⟨t.toArray⟩ w1 HW1.out (by omega) (by rw [hsz]; simp; omega)).mono ?_
  rintro e w2 ⟨rfl, hw2, hk2⟩
  have hz2 := hk2.size
  have HW2 := hide hw2
  clear hw2
  go_wp2_with fail
  refine (wnum_any W base _ P.length w2 HW2.out (by omega) (by simp; omega) (by omega)).mono ?_
  rintro e w3 ⟨rfl, hw3, hk3⟩
  have hz3 := hk3.size
  have k3 : Kb 5 [W] base w w3 := (hk1.next hk2).next hk3
  have hp3 := HP.out.kb k3 (by decide) (by decide) (by simpa using HF.out)
  simp only [List.append_assoc] at hw3
  obtain ⟨pre, hpre⟩ : ∃ pre, l ++ (numB t.length ++ ((ByteArray.mk t.toArray).data.toList ++ numB P.length)) = pre := ⟨_, rfl⟩
  rw [hpre] at hw3
  have hpl : pre.length ≤ l.length + 16 := by rw [← hpre]; simp; omega
  have hfin : Hid (l ++ termB t P = pre ++ entB 0 P) := by
    show _ = _
    rw [← hpre]; unfold termB; simp
  have HW3 := hide hw3
  have HP3 := hide hp3
  clear hw3 hp3 hpre HW HW1 HW2 HP hk1 hk2 hk3
  go_wp2_with fail
  obtain ⟨W1, hW1⟩ : ∃ W1, w3.alloc (.cells #[.int .i64 0] 407) = W1 := ⟨_, rfl⟩
  rw [hW1]
  have k0 : Kp [] w3 W1 := by rw [← hW1]; exact (Kp.refl _ _).alloc _
  have hz0 := k0.size
  have hq0 : Ri W1 w3.heap.size 0 := by rw [← hW1]; exact heap_alloc_new w3 _
  have hw0 := HW3.out.kp k0 (by simp) (by simp)
  have hp0 := HP3.out.kp k0 (by simp)
  have HW0 := hide hw0
  have HQ0 := hide hq0
  have HP0 := hide hp0
  have kb0 : Kb 5 [W] base w W1 := k3.next (Kb.of_kp k0 (by simp))
  obtain ⟨Q, hQ⟩ : ∃ Q, w3.heap.size = Q := ⟨_, rfl⟩
  rw [hQ] at HQ0
  rw [hQ]
  have hQW : Q ≠ W := by omega
  have hQw : w.heap.size ≤ Q := by omega
  have HQf := hide (foot_ne HP0.out HQ0.out (by decide) (by decide))
  clear hw0 hq0 hp0 HW3 HP3 hW1 k0 k3
  go_loopw [22] (fun iv wr => ∃ k : Nat, k ≤ P.length ∧ iv = .int .i64 k ∧ Wr wr W base (pre ++ entB 0 (P.take k)) ∧ Ri wr Q (if k = 0 then 0 else (P.map Prod.fst).getD (k - 1) 0 + 1) ∧ PostIs wr b2 (.slice av P.length cv) P pvs ∧ base ≤ wr.heap.size ∧ Kb 5 [W] base w wr) (fun iv _ => P.length - (intOf iv).toNat)
  case atStart => exact ⟨0, by omega, rfl, by simpa [entB] using HW0.out, HQ0.out, HP0.out, by omega, kb0⟩
  case round =>
    clear HW0 HQ0 HP0 kb0
    obtain ⟨k, hk, rfl, hw1, hq1, hp1, hbase, hkb⟩ := hrel
    by_cases hlt2 : k < P.length
    · obtain ⟨g, rfl⟩ := hav (by omega)
      have hk2 : k < pvs.length := by rw [hp1.len]; exact hlt2
      obtain ⟨c0, c1⟩ := hp1.cells k hlt2 hk2
      have hsp := hide (ent_split P 0 k hlt2)
      obtain ⟨a1, a2, a3, a4, a5, a6⟩ := ok_at N P 0 k hlt2 HOK.out
      have hlen := ent_len N (P.take k) 0 (ok_take N P 0 k HOK.out)
      have hct := cntP_take P k
      have hca := cnt_at P k hlt2
      have hown := hp1.each k hlt2 hk2
      obtain ⟨ap, cp, ev, hap⟩ := owns_forms hown
      rw [ev] at c1 hown
      have hglt := (hp1.row.lt g rfl).2
      have hnx : Hid ((if k + 1 = 0 then 0 else (P.map Prod.fst).getD (k + 1 - 1) 0 + 1) = P[k].1 + 1) := by
        show _ = _
        simp [hlt2]
      obtain ⟨le, hle⟩ : ∃ le, (if k = 0 then 0 else (P.map Prod.fst).getD (k - 1) 0 + 1) = le := ⟨_, rfl⟩
      rw [hle] at a1 hq1 hsp
      obtain ⟨d, hd⟩ : ∃ d, P[k].1 = d := ⟨_, rfl⟩
      obtain ⟨ps, hps⟩ : ∃ ps, P[k].2 = ps := ⟨_, rfl⟩
      rw [hd] at c0 a1 a2 hsp hnx
      rw [hps] at c1 a3 a4 a5 a6 hsp hca hown ev
      have HW := hide hw1
      have HQ := hide hq1
      have HP := hide hp1
      have HO := hide hown
      have HR := hide a5
      have HB := hide a6
      have Hev := hide ev
      have Hlen : Hid ((pre ++ entB 0 (P.take k)).length ≤ 900100) := by
        show _ ≤ _
        rw [List.length_append]
        omega
      clear hw1 hq1 hp1 hown a5 a6 ev hle hd hps hlen
      go_wp2_with fail
      obtain ⟨H, hH⟩ : ∃ H, wr.heap.size = H := ⟨_, rfl⟩
      obtain ⟨wp, hwp⟩ : ∃ wp, wr.alloc (.cells #[.int .i64 (d : Int), .slice ap ps.length cp] 413) = wp := ⟨_, rfl⟩
      have kp0 : Kp [] wr wp := by rw [← hwp]; exact (Kp.refl _ _).alloc _
      have hb0 : wp.heap[H]? = some (.cells #[.int .i64 (d : Int), .slice ap ps.length cp] 413 (0, 0)) := by rw [← hwp, ← hH]; exact heap_alloc_new wr _
      have hwpz := kp0.size
      have hwW := HW.out.kp kp0 (by simp) (by simp)
      have hwQ : Ri wp Q le := kp0.heap HQ.out (by simp)
      have hwP := HP.out.kp kp0 (by simp)
      have hwO := kp0.owns HO.out (by simp)
      have hHf : H ∉ foot (.slice (some ⟨g, 0, none⟩) P.length cv) pvs := fun hx => by
        have := (HP.out.foot_lt H hx).2; omega
      have hWH : W ≠ H := by have := hkb.size; omega
      have hQH : Q ≠ H := by have := heap_lt HQ.out; omega
      have HHf := hide hHf
      rw [hwp, hH]
      have HW' := hide hwW
      have HQ' := hide hwQ
      have HP' := hide hwP
      have HO' := hide hwO
      have HB0 := hide hb0
      have HH := hide hH
      clear hwW hwQ hwP hwO hwp HW HQ HP HO hHf hb0 c0 c1
      have hbase2 : base ≤ wp.heap.size := by omega
      clear hH
      refine (wentry_any W base Q le d _ wp HW'.out HQ'.out hQW hbase2 (by have := Hlen.out; omega) a1 (by omega)).mono ?_
      rintro e w4 ⟨rfl, hw4, hq4, hk4⟩
      have hz4 := hk4.size
      have hWQf : ∀ x ∈ [W, Q], x ∉ foot (.slice (some ⟨g, 0, none⟩) P.length cv) pvs := by
        intro x hx
        simp at hx
        rcases hx with rfl | rfl
        · exact HF.out
        · exact HQf.out
      have hp4 := HP'.out.kb hk4 (by decide) (by decide) hWQf
      have hb4 := hk4.heap (by simp; omega) HB0.out (by decide)
      have ho4 := hk4.owns HO'.out (by decide) (by
        intro x hx hg
        exact hWQf x hx (foot_each hk2 (by rw [Hev.out]; exact hg)))
      obtain ⟨d0, d1, _, _⟩ := rd_cells hb4
      have hH4 := heap_lt hb4
      have kb4 : Kb 5 [W] base w w4 := by
        refine (hkb.next (Kb.of_kp kp0 (by simp))).trans hk4 ?_
        intro x hx
        simp at hx
        rcases hx with rfl | rfl
        · simp
        · right; omega
      have HW4 := hide hw4
      have HQ4 := hide hq4
      have HP4 := hide hp4
      have HO4 := hide ho4
      have HB4 := hide hb4
      clear hw4 hq4 hp4 ho4 hb4 HW' HQ' HP' HO' hk4 kp0 hkb HB0
      go_wp2_with fail
      have hn1 := numB_len (d - le)
      refine (wnum_any W base _ ps.length w4 HW4.out (by omega) (by have := Hlen.out; rw [List.length_append]; omega) (by omega)).mono ?_
      rintro e w5 ⟨rfl, hw5, hk5⟩
      have hz5 := hk5.size
      have hWf1 : ∀ x ∈ [W], x ∉ foot (.slice (some ⟨g, 0, none⟩) P.length cv) pvs := fun x hx => hWQf x (by simp at hx; simp [hx])
      have hp5 := HP4.out.kb hk5 (by decide) (by decide) hWf1
      have hb5 := hk5.heap (by simp; omega) HB4.out (by decide)
      have ho5 := hk5.owns HO4.out (by decide) (by
        intro x hx hg
        exact hWf1 x hx (foot_each hk2 (by rw [Hev.out]; exact hg)))
      have hq5 : Ri w5 Q (d + 1) := hk5.heap (by simp; omega) HQ4.out (by decide)
      obtain ⟨e0, e1, _, _⟩ := rd_cells hb5
      have hH5 := heap_lt hb5
      have HW5 := hide hw5
      have HQ5 := hide hq5
      have HP5 := hide hp5
      have HO5 := hide ho5
      clear hw5 hq5 hp5 ho5 hb5 HW4 HQ4 HP4 HO4 HB4 d0 d1
      go_wp2_with fail
      have hn2 := numB_len ps.length
      refine (wrising_any W base b2 _ _ ps w5 HW5.out HO5.out (by omega) (by have := Hlen.out; rw [List.length_append, List.length_append]; omega) (by omega) HR.out (fun x hx => by have := HB.out x hx; omega)).mono ?_
      rintro e w6 ⟨rfl, hw6, hk6⟩
      have hz6 := hk6.size
      have hp6 := HP5.out.kb hk6 (by decide) (by decide) hWf1
      have hq6 : Ri w6 Q (d + 1) := hk6.heap (by simp; omega) HQ5.out (by decide)
      have HW6 := hide hw6
      have HQ6 := hide hq6
      have HP6 := hide hp6
      have kb6 : Kb 5 [W] base w w6 := (kb4.next hk5).next hk6
      clear hw6 hq6 hp6 HW5 HQ5 HP5 HO5 e0 e1 kb4 hk5 hk6
      go_wp2_with fail
      go_roundw
      case rel =>
        refine ⟨k + 1, by omega, by go_num, ?_, ?_, HP6.out, by omega, kb6⟩
        · rw [hsp.out]
          have := HW6.out
          simpa only [List.append_assoc] using this
        · rw [hnx.out]; exact HQ6.out
      case measure => simp [intOf]; omega
    · have e : k = P.length := by omega
      subst e
      have HW := hide hw1
      clear hw1 hq1 hp1
      go_wp2_with fail
      go_end0
      refine ⟨rfl, ?_, hkb⟩
      rw [hfin.out]
      have := HW.out
      rwa [List.take_length] at this
end Go.Proofs.YtbkepgmgebmceaaGreatDoor.Pak

set_option linter.unusedVariables false
set_option maxRecDepth 4000
namespace Go.Proofs.YtbkepgmgebmceaaGreatDoor.Pak
open Go.RowKit Go.Proofs.YtbkepgmgebmceaaGreatDoor Go.Proofs.YtbkepgmgebmceaaGreatDoor.Spl SiftM

theorem upTo_below (rows : List (List Nat)) (nt : Nat) (h : ∀ r ∈ rows, ∀ x ∈ r, x < nt) : upTo rows rows.length 0 = belowF rows nt := by
  funext d p
  unfold upTo belowF
  by_cases hd : d < rows.length
  · rw [if_pos (.inl hd), getD_at _ _ hd, List.getElem?_eq_getElem hd]
    by_cases hp : p < rows[d].length
    · rw [getD_at _ _ hp, if_pos ⟨hd, hp, h _ (List.getElem_mem hd) _ (List.getElem_mem hp)⟩]
      simp [hp]
    · rw [if_neg (fun h' => hp h'.2.1)]
      simp at hp
      simp [hp]
  · rw [if_neg (by omega), if_neg (fun h' => hd h'.1)]

theorem terms_split (P : Nat → List Po) : ∀ (ts : List (List UInt8)) (k0 k : Nat) (hk : k < ts.length), termsB P k0 (ts.take (k + 1)) = termsB P k0 (ts.take k) ++ termB ts[k] (P (k0 + k))
  | x :: r, k0, 0, hk => by simp [termsB]
  | x :: r, k0, k + 1, hk => by
    have ih := terms_split P r (k0 + 1) k (by simpa using hk)
    simp only [List.take_succ_cons, termsB, List.append_assoc, List.getElem_cons_succ]
    rw [ih, show k0 + 1 + k = k0 + (k + 1) by omega]

theorem cntP_ok (N : Nat) : ∀ (P : List Po) (least : Nat), OkP N least P → cntP P ≤ 60 * P.length
  | [], _, _ => by simp [cntP]
  | x :: r, least, h => by
    have ih := cntP_ok N r (x.1 + 1) h.2.2.2.2.2.2
    have := h.2.2.2.1
    simp [cntP]; omega

theorem cntK_le (P : Nat → List Po) : ∀ (k n m : Nat), n ≤ m → cntK P k n ≤ cntK P k m
  | k, 0, m, h => by simp [cntK]
  | k, n + 1, 0, h => by omega
  | k, n + 1, m + 1, h => by
    have := cntK_le P (k + 1) n m (by omega)
    simp [cntK]; exact this

theorem terms_len (N : Nat) (P : Nat → List Po) (hP : ∀ k, OkP N 0 (P k)) : ∀ (ts : List (List UInt8)) (k : Nat), (∀ x ∈ ts, x.length ≤ 8) → (termsB P k ts).length ≤ 16 * ts.length + 12 * cntK P k ts.length
  | [], k, _ => by simp [termsB]
  | x :: r, k, h => by
    have ih := terms_len N P hP r (k + 1) (fun y hy => h y (by simp [hy]))
    have h1 := ent_len N (P k) 0 (hP k)
    have h2 := numB_len x.length
    have h3 := numB_len (P k).length
    have h4 := h x (by simp)
    simp only [termsB, termB, List.length_append, List.length_cons, cntK]
    omega

theorem sumW_le : ∀ (T : List Tx), (∀ t ∈ T, t.2.length ≤ 60) → sumW T ≤ 60 * T.length
  | [], _ => by simp [sumW]
  | t :: r, h => by
    have := sumW_le r (fun x hx => h x (by simp [hx]))
    have := h t (by simp)
    simp [sumW]; omega

theorem word_len (x : List UInt8) (h : isWord x = true) : x.length ≤ 8 := by unfold isWord at h; simp at h; exact h.1.2

theorem fine_word (T : List Tx) (hf : Fine T) : ∀ x ∈ termsOf T, x.length ≤ 8 := by
  intro x hx
  obtain ⟨t, ht, hx'⟩ := (allW_iff T x).1 ((terms_mem T x).1 hx)
  exact word_len x (hf.word t ht x hx')

def postT (T : List Tx) : Nat → List Po := fun t => postD (rowsOf T) t (rowsOf T).length
theorem postT_ok (T : List Tx) (hf : Fine T) (t : Nat) : OkP T.length 0 (postT T t) := by
  have := postD_ok (rowsOf T) t T.length (rows_small T hf.few) (rowsOf T).length (by rw [rows_len]; exact Nat.le_refl _)
  exact this
theorem postT_cnt (T : List Tx) (hf : Fine T) (k : Nat) (hk : k ≤ (termsOf T).length) : cntK (postT T) 0 k ≤ 3600 := by
  have h1 := cntK_le (postT T) 0 k (termsOf T).length hk
  have h2 := post_sum (rowsOf T) (termsOf T).length (rowsOf T).length (Nat.le_refl _) (rows_lt T)
  have h3 := cnt_rows (bsIx (termsOf T)) T
  have h4 := sumW_le T hf.few
  have h5 := hf.len
  have e : cntK (postT T) 0 (termsOf T).length = cntTo (rowsOf T) (rowsOf T).length := h2
  rw [e] at h1
  rw [rows_len] at h1
  have e3 : cntTo (rowsOf T) T.length = sumW T := h3
  omega
theorem postT_part (T : List Tx) (hf : Fine T) (k : Nat) : (termsB (postT T) 0 ((termsOf T).take k)).length ≤ 100800 := by
  have h1 := terms_len T.length (postT T) (postT_ok T hf) ((termsOf T).take k) 0 (fun x hx => fine_word T hf x (List.mem_of_mem_take hx))
  have h2 := allW_le T hf.few
  have h3 := hf.len
  have hl : ((termsOf T).take k).length ≤ (termsOf T).length := by rw [List.length_take]; omega
  have h4 := postT_cnt T hf _ hl
  omega
theorem body_eq (T : List Tx) : bodyT T = 83 :: (numB T.length ++ (riseB 0 (T.map Prod.fst) ++ (numB (termsOf T).length ++ termsB (postT T) 0 (termsOf T)))) := by
  unfold bodyT bodyB postT
  rw [List.length_map]

theorem owns_low {w : World} {base base' size n : Nat} {e : TypeId} {v : Value} {xs : List Value} (h : w.ownsRow base e size v n xs) (hb : base' ≤ base) : w.ownsRow base' e size v n xs := by
  refine ⟨h.1, ?_⟩
  rcases h.2 with hn | ⟨g, cap, cur, e1, h1, rest⟩
  · exact .inl hn
  · exact .inr ⟨g, cap, cur, e1, by omega, rest⟩

theorem ListsIs.wr {w w' : World} {base b2 Lb nt Wb : Nat} {vF : Nat → Value} {PF : Nat → List Po} {pF : Nat → List Value} {l : List UInt8} (h : ListsIs w b2 Lb nt vF PF pF) (k : Kb 5 [Wb] base w w') (hw : Wr w Wb base l) : ListsIs w' b2 Lb nt vF PF pF := by
  obtain ⟨v0, hW0, _⟩ := hw
  have h1 : Lb ∉ [Wb] := by
    intro hx
    simp at hx
    subst hx
    have := h.blk
    rw [hW0] at this; simp at this
  refine ⟨k.heap h1 h.blk (by decide), fun t ht => (h.each t ht).kb k (by decide) (by decide) ?_, h.disj⟩
  intro x hx
  simp at hx
  subst hx
  exact foot_ne (h.each t ht) hW0 (by decide) (by decide)

theorem Tabl.wr {w w' : World} {T B Wb base M c : Nat} {ids : List Nat} {terms : List (List UInt8)} {f : Nat → Nat → Option Nat} {iv tv : Value} {l : List UInt8} (h : Tabl w T B ids terms M c f iv tv) (k : Kb 5 [Wb] base w w') (hw : Wr w Wb base l) : Tabl w' T B ids terms M c f iv tv := by
  obtain ⟨v0, hW0, _⟩ := hw
  have h1 : T ∉ [Wb] := by
    intro hx
    simp at hx
    subst hx
    have := h.blk
    rw [hW0] at this; simp at this
  refine ⟨k.heap h1 h.blk (by decide), k.owns h.ids (by decide) ?_, k.owns h.terms (by decide) ?_, h.map.kb k ?_, h.leT, h.leM⟩
  · intro x hx; simp at hx; subst hx; exact owns_ne h.ids hW0 (by decide)
  · intro x hx; simp at hx; subst hx; exact owns_ne h.terms hW0 (by decide)
  · have := map_ne h.map hW0; simpa using this

set_option maxHeartbeats 2000000 in
theorem write_any (B : Nat) (v : Value) (T : List Tx) (vs : List Value) (w : World) (h : TextsIs w B v T vs) (hf : Fine T) :
    Calls Tryz.prog 151 #[v] w fun e w' => ∃ v', e = .returned v' ∧ w'.ownsRow w.heap.size 5 1 v' ((bodyT T).length + 4) (byV (fileT T)) ∧ Kp [] w w' := by
  obtain ⟨av, cv, rfl, hav⟩ := owns_forms h.row
  have htab := tableOf_any B _ T vs w h hf.len hf.few
  have hn := hf.len
  have hnt := allW_le T hf.few
  have hids : ∀ x ∈ T.map Prod.fst, x < 268435456 := by
    intro x hx
    obtain ⟨t, ht, rfl⟩ := List.mem_map.1 hx
    have := hf.ids t ht; omega
  have hrs := hf.rise
  have hil : (T.map Prod.fst).length = T.length := by simp
  have hpart := postT_part T hf
  have hok := postT_ok T hf
  have hwd := fine_word T hf
  have hup := upTo_below (rowsOf T) (termsOf T).length (rows_lt T)
  rw [rows_len] at hup
  have hra := below_rows (rowsOf T) (termsOf T).length (rows_small T hf.few) (rows_lt T)
  have hrsm := rows_small T hf.few
  have hbe := body_eq T
  have hcl := fun t => PFd_closed (rowsOf T) (rowsOf T).length t
  have hrl := rows_len T
  obtain ⟨terms, hterms⟩ : ∃ terms, termsOf T = terms := ⟨_, rfl⟩
  obtain ⟨rows, hrows⟩ : ∃ rows, rowsOf T = rows := ⟨_, rfl⟩
  obtain ⟨ids, hidsE⟩ : ∃ ids, T.map Prod.fst = ids := ⟨_, rfl⟩
  obtain ⟨PT, hPT⟩ : ∃ PT, postT T = PT := ⟨_, rfl⟩
  obtain ⟨n, hnE⟩ : ∃ n, T.length = n := ⟨_, rfl⟩
  obtain ⟨body, hbodyE⟩ : ∃ body, bodyT T = body := ⟨_, rfl⟩
  have hPF : ∀ t, PFd rows rows.length t = PT t := by
    intro t; rw [← hPT, ← hrows]; exact hcl t
  have hfile : fileT T = body ++ sumB body := by rw [← hbodyE]; rfl
  rw [hterms, hrows, hidsE, hnE] at htab
  rw [hterms, hnE] at hnt
  rw [hterms, hPT] at hpart
  rw [hPT, hnE] at hok
  rw [hterms] at hwd
  rw [hrows, hterms, hnE] at hup
  rw [hrows, hterms] at hra
  rw [hrows] at hrsm
  rw [hrows, hnE] at hrl
  rw [hbodyE, hnE, hidsE, hterms, hPT] at hbe
  rw [hidsE] at hids hrs hil
  rw [hnE] at hn hil hav
  rw [hup] at htab
  rw [hbodyE, hfile, hnE]
  have HT := hide htab
  have HI := hide hids
  have HRS := hide hrs
  have Hil := hide hil
  have HPt := hide hpart
  have HOK := hide hok
  have HWd := hide hwd
  have HRA := hide hra
  have HSM := hide hrsm
  have HBE := hide hbe
  have HPF := hide hPF
  have Hrl := hide hrl
  clear htab hids hrs hil hpart hok hwd hup hra hrsm hbe hcl hrl hPF hterms hrows hidsE hPT hnE hbodyE hfile hf h
  go_enter Tryz.func151, Tryz.ntmps151
  go_wp2_with fail
  refine HT.out.mono ?_
  rintro e w1 ⟨M, iv, tv, rfl, hiv, htv, hM, hMb, k1⟩
  obtain ⟨ai, ci, rfl, hai⟩ := owns_forms hiv
  obtain ⟨at', ct, rfl, hat⟩ := owns_forms htv
  have hz1 := k1.size
  have HIV := hide hiv
  have HTV := hide htv
  have HM := hide hM
  clear hiv htv hM HT
  go_wp2_with fail
  obtain ⟨W2, hW2⟩ : ∃ W2, (w1.alloc (.cells #[.slice ai n ci, .slice at' terms.length ct, .map (some M)] 290)).alloc (.cells #[.slice none 0 0] 340) = W2 := ⟨_, rfl⟩
  have k2 : Kp [] w1 W2 := by rw [← hW2]; exact ((Kp.refl _ _).alloc _).alloc _
  have hbT : W2.heap[w1.heap.size]? = some (.cells #[.slice ai n ci, .slice at' terms.length ct, .map (some M)] 290 (0, 0)) := by
    rw [← hW2, Below.heap_alloc _ _ _ (by simp)]; exact heap_alloc_new w1 _
  have hbW : W2.heap[w1.heap.size + 1]? = some (.cells #[.slice none 0 0] 340 (0, 0)) := by
    rw [← hW2]
    have := heap_alloc_new (w1.alloc (.cells #[.slice ai n ci, .slice at' terms.length ct, .map (some M)] 290)) (.cells #[.slice none 0 0] 340)
    rw [World.size_alloc] at this
    exact this
  obtain ⟨Tb, hTb⟩ : ∃ Tb, w1.heap.size = Tb := ⟨_, rfl⟩
  obtain ⟨Wb, hWb⟩ : ∃ Wb, w1.heap.size + 1 = Wb := ⟨_, rfl⟩
  rw [hTb] at hbT
  rw [hWb] at hbW
  rw [hW2, hWb, hTb]
  have hwr2 : Wr W2 Wb w.heap.size [] := ⟨_, hbW, World.ownsRow_nil _ _ _ _⟩
  have htb2 : Tabl W2 Tb w.heap.size ids terms M (cntTo rows n) (belowF rows terms.length) (.slice ai n ci) (.slice at' terms.length ct) := by
    refine ⟨hbT, ?_, k2.owns HTV.out (by simp), HM.out.kp k2 (by simp), by omega, hMb⟩
    have := k2.owns HIV.out (by simp)
    rw [Hil.out]; exact this
  have hTW : w.heap.size ≤ Tb ∧ w.heap.size ≤ Wb := by omega
  have hz2 := k2.size
  have kw2 : Kb 5 [Wb] w.heap.size w W2 := Kb.of_kp (k1.next k2) (by simp)
  have hWlt := heap_lt hbW
  have HW2 := hide hwr2
  have HT2 := hide htb2
  clear hwr2 htb2 hbT hbW hW2 hTb hWb HIV HTV HM
  refine (wtext_any Wb w.heap.size [] ⟨#[83]⟩ W2 HW2.out (by omega) (by decide)).mono ?_
  rintro e w3 ⟨rfl, hw3, k3⟩
  have hz3 := k3.size
  have ht3 := HT2.out.wr k3 HW2.out
  obtain ⟨b0, b1, b2, _, _, _⟩ := tb_cells ht3.blk
  have hTlt := heap_lt ht3.blk
  have kw3 := kw2.next k3
  have HW3 := hide hw3
  have HT3 := hide ht3
  clear hw3 ht3 HW2 HT2 k3 kw2
  go_wp2_with fail
  refine (wnum_any Wb w.heap.size _ n w3 HW3.out (by omega) (by simp) (by omega)).mono ?_
  rintro e w4 ⟨rfl, hw4, k4⟩
  have hz4 := k4.size
  have ht4 := HT3.out.wr k4 HW3.out
  clear b0 b1 b2 hTlt
  obtain ⟨b0, b1, b2, _, _, _⟩ := tb_cells ht4.blk
  have hTlt := heap_lt ht4.blk
  have kw4 := kw3.next k4
  have hn1 := numB_len n
  have HW4 := hide hw4
  have HT4 := hide ht4
  clear hw4 ht4 HW3 HT3 k4 kw3
  go_wp2_with fail
  have hi4 : Hid (w4.ownsRow w.heap.size 3 1 (.slice ai n ci) ids.length (intV ids)) := HT4.out.ids
  refine (wrising_any Wb w.heap.size w.heap.size _ _ ids w4 HW4.out hi4.out (by omega) (by rw [Hil.out]; simp; omega) (by rw [Hil.out]; omega) HRS.out HI.out).mono ?_
  rintro e w5 ⟨rfl, hw5, k5⟩
  have hz5 := k5.size
  have ht5 := HT4.out.wr k5 HW4.out
  clear b0 b1 b2 hTlt
  obtain ⟨b0, b1, b2, _, _, _⟩ := tb_cells ht5.blk
  have hTlt := heap_lt ht5.blk
  have kw5 := kw4.next k5
  have hn2 := riseB_len ids 0
  have HW5 := hide hw5
  have HT5 := hide ht5
  clear hw5 ht5 HW4 HT4 k5 kw4 hi4
  go_wp2_with fail
  refine (wnum_any Wb w.heap.size _ terms.length w5 HW5.out (by omega) (by rw [Hil.out] at hn2; simp; omega) (by omega)).mono ?_
  rintro e w6 ⟨rfl, hw6, k6⟩
  have hz6 := k6.size
  have ht6 := HT5.out.wr k6 HW5.out
  clear b0 b1 b2 hTlt
  obtain ⟨b0, b1, b2, _, _, _⟩ := tb_cells ht6.blk
  have hTlt := heap_lt ht6.blk
  have kw6 := kw5.next k6
  have hn3 := numB_len terms.length
  obtain ⟨pre, hpre⟩ : ∃ pre, [] ++ (ByteArray.mk #[83]).data.toList ++ numB n ++ riseB 0 ids ++ numB terms.length = pre := ⟨_, rfl⟩
  have hpl : pre.length ≤ 300 := by rw [← hpre]; rw [Hil.out] at hn2; simp; omega
  have hfin : Hid (body = pre ++ termsB PT 0 terms) := by
    show _ = _
    rw [HBE.out, ← hpre]; simp
  have hp0 : 0 < pre.length := by rw [← hpre]; simp
  rw [hpre] at hw6
  have HW6 := hide hw6
  have HT6 := hide ht6
  have HB6 := hide (show w6.cell? ⟨Tb, 0, none⟩ = _ ∧ w6.cell? ⟨Tb, 1, none⟩ = _ from ⟨b0, b1⟩)
  clear hw6 ht6 HW5 HT5 k6 kw5 hpre HBE
  go_wp2_with fail
  have hids6 := HT6.out.ids
  have hterms6 := HT6.out.terms
  have hPO := postings_any M _ w.heap.size _ _ _ ids terms rows w6 HT6.out.map hids6 hterms6 HRA.out HSM.out (by rw [Hrl.out, Hil.out]) (by rw [Hil.out]; exact hn) (by omega)
  clear hids6 hterms6
  refine hPO.mono ?_
  rintro e w7 ⟨Lb, vF, pF, rfl, hL7, hLb, k7⟩
  have hz7 := k7.size
  have hw7 := HW6.out.kp k7 (by simp) (by simp)
  have ht7 := HT6.out.kp k7 (HT6.out.map.kp k7 (by simp)) (by simp) (by simp) (by simp)
  have kw7 : Kb 5 [Wb] w.heap.size w w7 := kw6.next (Kb.of_kp k7 (by simp))
  have hb7 : w.heap.size ≤ w7.heap.size := kw7.size
  have HW7 := hide hw7
  have HT7 := hide ht7
  have HL7 := hide hL7
  clear hw7 ht7 hL7 hPO HW6 HT6 HB6 k7 kw6 b0 b1 b2 hTlt
  go_wp2_with fail
  obtain ⟨H6, hH6⟩ : ∃ H6, w6.heap.size = H6 := ⟨_, rfl⟩
  rw [hH6] at HL7
  clear hH6
  go_loopw [24] (fun iv wr => ∃ k : Nat, k ≤ terms.length ∧ iv = .int .i64 k ∧ Wr wr Wb w.heap.size (pre ++ termsB PT 0 (terms.take k)) ∧ Tabl wr Tb w.heap.size ids terms M (cntTo rows n) (belowF rows terms.length) (.slice ai n ci) (.slice at' terms.length ct) ∧ ListsIs wr H6 Lb terms.length vF (PFd rows rows.length) pF ∧ w.heap.size ≤ wr.heap.size ∧ Kb 5 [Wb] w.heap.size w wr) (fun iv _ => terms.length - (intOf iv).toNat)
  case atStart => exact ⟨0, by omega, rfl, by simpa [termsB] using HW7.out, HT7.out, HL7.out, hb7, kw7⟩
  case round =>
    clear HW7 HT7 HL7 kw7 hb7
    obtain ⟨k, hk, rfl, hwk, htk, hlk, hbk, hkb⟩ := hrel
    by_cases hlt : k < terms.length
    · obtain ⟨gt, rfl⟩ := hat (by omega)
      obtain ⟨c0, c1, c2, _, _, _⟩ := tb_cells htk.blk
      have hTlt := heap_lt htk.blk
      have hLlt := heap_lt hlk.blk
      have hct := strs_cells htk.terms rfl k hlt
      obtain ⟨hcl, _⟩ := lists_cell hlk.blk hlt
      have hpo := hlk.each k hlt
      rw [HPF.out k] at hpo
      obtain ⟨ap, cp, ev, _⟩ := owns_forms hpo.row
      rw [ev] at hpo hcl
      have hsp := hide (terms_split PT terms 0 k hlt)
      have hwl := HWd.out terms[k] (List.getElem_mem hlt)
      obtain ⟨tm, htm⟩ : ∃ tm, terms[k] = tm := ⟨_, rfl⟩
      rw [htm] at hct hsp hwl
      rw [Nat.zero_add] at hsp
      have hgt := (htk.terms.lt gt rfl).2
      have hpk := HPt.out k
      have hok := HOK.out k
      have hcn := cntP_ok n (PT k) 0 hok
      have hol := okP_len n (PT k) 0 hok
      obtain ⟨Pk, hPk⟩ : ∃ Pk, PT k = Pk := ⟨_, rfl⟩
      rw [hPk] at hpo hsp hok hcn hol hcl
      have hTE := wterm_any Wb w.heap.size H6 n (pre ++ termsB PT 0 (terms.take k)) tm (.slice ap Pk.length cp) Pk (pF k) wr hwk hpo hbk hok hn hwl (by rw [List.length_append]; omega)
      have HWk := hide hwk
      have HTk := hide htk
      have HLk := hide hlk
      have HTE := hide hTE
      clear hwk htk hlk hTE hpo hok ev htm hPk hpk
      go_wp2_with fail
      refine HTE.out.mono ?_
      rintro e w8 ⟨rfl, hw8, k8⟩
      have hz8 := k8.size
      have ht8 := HTk.out.wr k8 HWk.out
      have hl8 := HLk.out.wr k8 HWk.out
      have kw8 := hkb.next k8
      have HW8 := hide hw8
      have HT8 := hide ht8
      have HL8 := hide hl8
      clear hw8 ht8 hl8 HWk HTk HLk HTE c0 c1 c2 hct hcl k8 hkb
      go_wp2_with fail
      go_roundw
      case rel =>
        refine ⟨k + 1, by omega, by go_num, ?_, HT8.out, HL8.out, by omega, kw8⟩
        rw [hsp.out, ← List.append_assoc]; exact HW8.out
      case measure => simp [intOf]; omega
    · have e : k = terms.length := by omega
      subst e
      have hpk := HPt.out terms.length
      rw [List.take_length] at hwk hpk
      have hSE := sealed_any Wb w.heap.size _ wr hwk (by rw [List.length_append]; omega) (by rw [List.length_append]; omega)
      rw [← hfin.out] at hSE
      have HSE := hide hSE
      clear hwk htk hlk hSE hpk
      go_wp2_with fail
      refine HSE.out.mono ?_
      rintro e w9 ⟨v9, rfl, ho9, k9⟩
      obtain ⟨a9, c9, rfl, _⟩ := owns_forms ho9
      have hk9 : Kp [] w w9 := (Kp.of_below [] (hkb.below (Nat.le_refl _) (by simp; omega) (Nat.le_refl _))).next k9
      have HO9 := hide (owns_low ho9 hbk)
      clear ho9 k9 HSE hkb
      go_wp2_with fail
      go_ret
      exact ⟨_, rfl, HO9.out, hk9⟩
end Go.Proofs.YtbkepgmgebmceaaGreatDoor.Pak

set_option linter.unusedVariables false
set_option maxRecDepth 4000
namespace Go.Proofs.YtbkepgmgebmceaaGreatDoor.Pak
open Go.RowKit Go.Proofs.YtbkepgmgebmceaaGreatDoor Go.Proofs.YtbkepgmgebmceaaGreatDoor.Spl SiftM

def tx3 (xs : List (Nat × Value)) : List Value := xs.flatMap fun x => [Value.int .i64 (x.1 : Int), x.2, .bool false]
theorem tx3_len (xs : List (Nat × Value)) : (tx3 xs).length = xs.length * 3 := by
  induction xs with
  | nil => rfl
  | cons x r ih => simp [tx3] at ih ⊢; omega
theorem tx3_get : ∀ (xs : List (Nat × Value)) (i : Nat) (h : i < xs.length), (tx3 xs)[i * 3]? = some (.int .i64 (xs[i].1 : Int)) ∧ (tx3 xs)[i * 3 + 1]? = some xs[i].2 ∧ (tx3 xs)[i * 3 + 2]? = some (.bool false)
  | x :: r, 0, h => by simp [tx3]
  | x :: r, i + 1, h => by
    have ih := tx3_get r i (by simpa using h)
    have e : tx3 (x :: r) = .int .i64 (x.1 : Int) :: x.2 :: .bool false :: tx3 r := by simp [tx3]
    rw [e, show (i + 1) * 3 = i * 3 + 3 by omega, show i * 3 + 3 + 1 = i * 3 + 1 + 3 by omega, show i * 3 + 3 + 2 = i * 3 + 2 + 3 by omega]
    simpa using ih
/-- The document's docs. -/
structure DocsIs (w : World) (base : Nat) (v : Value) (T : List Tx) (vs : List Value) : Prop where
  len : vs.length = T.length
  row : w.ownsRow base 251 3 v T.length (tx3 ((T.map Prod.fst).zip vs))
  each : ∀ i (h : i < T.length) (h2 : i < vs.length), w.ownsRow base 9 1 vs[i] T[i].2.length (strV T[i].2)
theorem DocsIs.nil (w : World) (base : Nat) : DocsIs w base (.slice none 0 0) [] [] := ⟨rfl, World.ownsRow_nil _ _ _ _, fun i h => by simp at h⟩
theorem DocsIs.kp0 {w w' : World} {base : Nat} {v : Value} {T : List Tx} {vs : List Value} (h : DocsIs w base v T vs) (k : Kp [] w w') : DocsIs w' base v T vs :=
  ⟨h.len, k.owns h.row (by simp), fun i h1 h2 => k.owns (h.each i h1 h2) (by simp)⟩
theorem DocsIs.kb5 {w w' : World} {base b : Nat} {v : Value} {T : List Tx} {vs : List Value} (h : DocsIs w base v T vs) (k : Kb 5 [] b w w') : DocsIs w' base v T vs :=
  ⟨h.len, k.owns h.row (by decide) (by simp), fun i h1 h2 => k.owns (h.each i h1 h2) (by decide) (by simp)⟩
theorem DocsIs.drew {w : World} {base : Nat} {v : Value} {T : List Tx} {vs : List Value} (h : DocsIs w base v T vs) : DocsIs w.drew base v T vs := h.kp0 ((Kp.refl [] w).drewN 1)
theorem DocsIs.cells {w : World} {base g cap n : Nat} {T : List Tx} {vs : List Value} (h : DocsIs w base (.slice (some ⟨g, 0, none⟩) n cap) T vs) (i : Nat) (hi : i < T.length) (h2 : i < vs.length) :
    w.cell? ⟨g, i * 3, none⟩ = some (.int .i64 (T[i].1 : Int)) ∧ w.cell? ⟨g, i * 3 + 1, none⟩ = some vs[i] ∧ w.cell? ⟨g, i * 3 + 2, none⟩ = some (.bool false) := by
  have hz : i < ((T.map Prod.fst).zip vs).length := by simp; omega
  have hg := tx3_get ((T.map Prod.fst).zip vs) i hz
  have ea : ∀ j, (⟨g, 0, none⟩ : Addr).add j = ⟨g, j, none⟩ := by intro j; unfold Addr.add; split <;> simp_all
  have c0 := h.row.cells (g := g) rfl _ _ hg.1
  have c1 := h.row.cells (g := g) rfl _ _ hg.2.1
  have c2 := h.row.cells (g := g) rfl _ _ hg.2.2
  rw [ea] at c0 c1 c2
  simp at c0 c1
  exact ⟨c0, c1, c2⟩

/-- The postings of a word, of the first d docs. -/
def postW (T : List Tx) (t : List UInt8) : Nat → List Po
  | 0 => []
  | d + 1 => postW T t d ++ one d (plW (T.getD d (0, [])).2 t (T.getD d (0, [])).2.length)
theorem postW_step (T : List Tx) (t : List UInt8) (d : Nat) (h : d < T.length) : postW T t (d + 1) = postW T t d ++ one d (plW T[d].2 t T[d].2.length) := by
  rw [postW, getD_at _ _ h]
theorem postW_len (T : List Tx) (t : List UInt8) : ∀ d, (postW T t d).length ≤ d
  | 0 => by simp [postW]
  | d + 1 => by
    have := postW_len T t d
    simp only [postW, List.length_append, one]
    split <;> simp <;> omega
theorem postW_at (T : List Tx) (t : List UInt8) : ∀ d, d ≤ T.length → ∀ x ∈ postW T t d, ∃ h : x.1 < T.length, x.2 = plW T[x.1].2 t T[x.1].2.length
  | 0, _, x, hx => by simp [postW] at hx
  | d + 1, hd, x, hx => by
    rw [postW_step T t d (by omega)] at hx
    rcases List.mem_append.1 hx with hx | hx
    · exact postW_at T t d (by omega) x hx
    · unfold one at hx
      split at hx
      · simp at hx
      · simp at hx; subst hx
        exact ⟨by simp only; omega, rfl⟩

theorem rput_n (base : Nat) (a : Option Addr) (c n : Nat) (l : List UInt8) (k : Nat) (w : World) (h : w.ownsRow base 5 1 (.slice a n c) n (byV l)) (hn : l.length = n) (hb : base ≤ w.heap.size) (hl : n ≤ 2000000) (hk : k < 268435456) : Calls Tryz.prog 244 #[.slice a n c, .int .i64 k] w (Out w base (l ++ numB k)) := by
  subst hn; exact rput_any base _ l k w h hb hl hk
theorem rrising_n (base base' : Nat) (a au : Option Addr) (c n cu m : Nat) (l : List UInt8) (xs : List Nat) (w : World) (h : w.ownsRow base 5 1 (.slice a n c) n (byV l)) (hn : l.length = n) (hu : w.ownsRow base' 3 1 (.slice au m cu) m (intV xs)) (hm : xs.length = m) (hb : base ≤ w.heap.size) (hl : n + 4 * m ≤ 2000000) (hx : m ≤ 4000) (hr : Rs 0 xs) (hbd : ∀ x ∈ xs, x < 268435456) : Calls Tryz.prog 245 #[.slice a n c, .slice au m cu] w (Out w base (l ++ riseB 0 xs)) := by
  subst hn; subst hm; exact rrising_any base base' _ _ l xs w h hu hb hl hx hr hbd

set_option maxHeartbeats 500000 in
set_option maxRecDepth 100000 in
theorem rterm_any (base B N : Nat) (a0 : Option Addr) (c0 n0 : Nat) (u : Value) (l t : List UInt8) (T : List Tx) (vs : List Value) (w : World) (h : w.ownsRow base 5 1 (.slice a0 n0 c0) n0 (byV l)) (hn0 : l.length = n0) (hu : DocsIs w B u T vs) (hb : base ≤ w.heap.size)
    (hT : T.length = N) (hN : N ≤ 60) (hok : OkP N 0 (postW T t N)) (ht : t.length ≤ 8) (hws : ∀ x ∈ T, x.2.length ≤ 60) (hl : n0 + 12 * cntP (postW T t N) ≤ 1900000) :
    Calls Tryz.prog 246 #[.slice a0 n0 c0, u, .string ⟨t.toArray⟩] w (Out w base (l ++ termB t (postW T t N))) := by
  obtain ⟨i0, hi, hz0, hz1, hz2⟩ := info_parts info3
  obtain ⟨i5, hi5, hy0, hy1, hy2⟩ := info_parts info5
  obtain ⟨au, cu, rfl, hau⟩ := owns_forms hu.row
  rw [hT] at hu hau
  rw [hT]
  have HO := hide h
  have HU := hide hu
  have Hn0 := hide hn0
  have HT := hide hT
  have HOK := hide hok
  have HWS := hide hws
  clear h hu hn0 hT hok hws
  go_enter Tryz.func246, Tryz.ntmps246
  go_wp2_with fail
  go_loopw [7, 8] (fun av iv wr => ∃ (d : Nat) (a : Option Addr) (c m : Nat), d ≤ N ∧ iv = .int .i64 d ∧ av = .slice a m c ∧ (postW T t d).length = m ∧ wr.ownsRow w.heap.size 3 1 (.slice a m c) m (intV ((postW T t d).map Prod.fst)) ∧ Kp [] w wr) (fun _ iv _ => N - (intOf iv).toNat)
  case atStart => exact ⟨0, none, 0, 0, by omega, rfl, rfl, rfl, World.ownsRow_nil _ _ _ _, Kp.refl _ _⟩
  case round =>
    obtain ⟨d, a, c, m, hd, rfl, rfl, hm, ho, hkp⟩ := hrel
    have Hm := hide hm
    have HA := hide ho
    have hml : m ≤ d := by rw [← hm]; exact postW_len T t d
    clear hm ho
    by_cases hlt : d < N
    · obtain ⟨g, rfl⟩ := hau (by omega)
      have hdT : d < T.length := by rw [HT.out]; exact hlt
      have hur := HU.out.kp0 hkp
      have hdv : d < vs.length := by rw [hur.len]; exact hdT
      obtain ⟨q0, q1, q2⟩ := hur.cells d hdT hdv
      have hw := hur.each d hdT hdv
      obtain ⟨aw, cw, ew, _⟩ := owns_forms hw
      rw [ew] at q1 hw
      have hst := postW_step T t d hdT
      have hwl := HWS.out T[d] (List.getElem_mem hdT)
      obtain ⟨ws, hws⟩ : ∃ ws, T[d].2 = ws := ⟨_, rfl⟩
      rw [hws] at q1 hw hst hwl
      have hpl := rplaces_any B _ ws t wr hw (by omega)
      have hgl := (hur.row.lt g rfl).2
      have HPL := hide hpl
      have HST := hide hst
      clear hpl hur hw ew hst hws q0 q2
      go_wp2_with fail
      refine HPL.out.mono ?_
      rintro e w2 ⟨ap, cp, np, hnp, rfl, hp2, k2⟩
      have hz2' := k2.size
      have hz1' := hkp.size
      have ha2 := k2.owns HA.out (by simp)
      have HA2 := hide ha2
      have kf := hkp.next k2
      by_cases h0 : np = 0
      · have hs : Hid (postW T t (d + 1) = postW T t d) := by
          show _ = _
          rw [HST.out, show plW ws t ws.length = [] from List.eq_nil_of_length_eq_zero (by omega)]
          simp [one]
        subst h0
        clear hp2 ha2 hnp HPL HST k2 q1
        go_wp2_with fail
        go_roundw
        case rel => exact ⟨d + 1, a, c, m, by omega, by go_num, rfl, by rw [hs.out]; exact Hm.out, by rw [hs.out]; exact HA2.out, kf⟩
        case measure => simp [intOf]; omega
      · have hs : Hid (postW T t (d + 1) = postW T t d ++ [(d, plW ws t ws.length)]) := by
          show _ = _
          rw [HST.out]
          unfold one
          rw [if_neg (fun e => h0 (by rw [← hnp, e]; rfl))]
        have hpos : 0 < np := by omega
        clear hp2 ha2 hnp HPL HST k2 q1
        go_wp2_with (first
          | (at_builtin; refine wpList_append_own_at _ rfl _ _ 24 rfl w.heap.size 3 i0 (.int .i64 0) 1 8 Tryz.underlying24 hi hz0 hz1 hz2 rfl (by decide) _ _ _ rfl (HA2.out.alloc _) ⟨w2.heap.size, 0, none⟩ 1 1 [.int .i64 d] rfl rfl (one_new _ _ _) (one_cell _ _) ?c1 ?c2 ?c3 ?_)
          | fail)
        case c1 => unfold maxLen; omega
        case c2 => omega
        case c3 => simp; omega
        intro v3 w3 ho3 hgrow _ _
        obtain ⟨a3, c3, rfl, _⟩ := owns_forms ho3
        have k3 : Kp (Value.slice a m c).ownBlock.toList w2 w3 := ((Kp.refl _ _).alloc _).grown hgrow (fun j hj => .inl (by simp [hj]))
        have kf3 : Kp [] w w3 := kf.trans k3 (fun y hy => .inr (HA2.out.lt y (by simpa using hy)).1)
        have HO3 := hide ho3
        clear ho3 hgrow k3 HA2 HA
        go_wp2_with fail
        go_roundw
        case rel =>
          refine ⟨d + 1, a3, c3, m + 1, by omega, by go_num, rfl, ?_, ?_, kf3⟩
          · rw [hs.out, List.length_append, Hm.out]; rfl
          · rw [hs.out]
            have e : intV ((postW T t d ++ [(d, plW ws t ws.length)]).map Prod.fst) = intV ((postW T t d).map Prod.fst) ++ [.int .i64 (d : Int)] := by simp [intV]
            rw [e]; exact HO3.out
        case measure => simp [intOf]; omega
    · have ed : N = d := by omega
      subst ed
      obtain ⟨P, hP⟩ : ∃ P, postW T t N = P := ⟨_, rfl⟩
      have HPA : Hid (∀ x ∈ P, ∃ h : x.1 < T.length, x.2 = plW T[x.1].2 t T[x.1].2.length) := by
        show ∀ x ∈ P, _
        rw [← hP]; exact postW_at T t N (by rw [HT.out]; exact Nat.le_refl _)
      rw [hP] at Hm HA hl HOK
      have HPe := hide hP
      have HO1 := hide (hkp.owns HO.out (by simp))
      have HU1 := hide (HU.out.kp0 hkp)
      have hz1' := hkp.size
      have hbr : base ≤ wr.heap.size := by omega
      have hkb1 : Kb 5 [] base w wr := Kb.of_kp (S := []) hkp (by simp)
      have HPU := hide (rput_n base a0 c0 n0 l t.length wr HO1.out Hn0.out hbr (by omega) (by omega))
      have hsz : (ByteArray.mk t.toArray).size = t.length := by show t.toArray.size = t.length; simp
      clear HO HU hP hkp
      go_wp2_with fail
      refine HPU.out.mono ?_
      rintro e w2 ⟨a2, c2, n2, hn2, rfl, ho2, k2⟩
      have hz2' := k2.size
      have hl2 : n2 ≤ n0 + 4 := by rw [← hn2, List.length_append, Hn0.out]; have := numB_len t.length; omega
      have HO2 := hide ho2
      have Hn2 := hide hn2
      have HAT2 := hide (k2.owns HA.out (by decide) (by simp))
      have HD2 := hide (HU1.out.kb5 k2)
      have kb2 := hkb1.next k2
      clear ho2 hn2 k2 HA HU1 hkb1 HPU HO1
      go_wp2_with (first
        | (at_builtin; refine Lib.wpList_append_own_string _ rfl _ _ 109 9 rfl base 5 i5 Tryz.underlying109 Tryz.underlying9 hi5 hy0 hy1 hy2 _ _ _ rfl HO2.out ⟨t.toArray⟩ rfl ?c1 ?c2 (show base ≤ w2.heap.size by omega) ?_)
        | fail)
      case c1 => rw [hsz]; unfold maxLen; omega
      case c2 => rw [hsz]; omega
      intro v3 w3 ho3 hgrow _
      obtain ⟨a3, c3, rfl, _⟩ := owns_forms ho3
      have k3 : Kb 5 [] base w2 w3 := (Kb.refl 5 [] base w2).grown HO2.out hgrow
      have hz3' := k3.size
      have ho3' : w3.ownsRow base 5 1 (.slice a3 (n2 + t.length) c3) (n2 + t.length) (byV ((l ++ numB t.length) ++ t)) := by
        rw [byV_append]; exact ho3
      have hn3 : ((l ++ numB t.length) ++ t).length = n2 + t.length := by rw [List.length_append, Hn2.out]
      obtain ⟨n3, hn3E⟩ : ∃ n3, n2 + t.length = n3 := ⟨_, rfl⟩
      rw [hn3E] at ho3' hn3
      rw [hn3E]
      have HPU := hide (rput_n base a3 c3 n3 _ m w3 ho3' hn3 (by omega) (by omega) (by omega))
      have HAT3 := hide (k3.owns HAT2.out (by decide) (by simp))
      have HD3 := hide (HD2.out.kb5 k3)
      have kb3 := kb2.next k3
      have Hn3 := hide hn3
      clear ho3 ho3' hgrow k3 hn3 HAT2 HD2 kb2 HO2
      go_wp2_with fail
      refine HPU.out.mono ?_
      rintro e w4 ⟨a4, c4, n4, hn4, rfl, ho4, k4⟩
      have hz4' := k4.size
      have hl4 : n4 ≤ n3 + 4 := by rw [← hn4, List.length_append, Hn3.out]; have := numB_len m; omega
      obtain ⟨pre, hpre⟩ : ∃ pre, ((l ++ numB t.length) ++ t) ++ numB m = pre := ⟨_, rfl⟩
      have hfin : Hid (l ++ termB t P = pre ++ entB 0 P) := by
        show _ = _
        rw [← hpre]; unfold termB; rw [Hm.out]; simp
      rw [hpre] at ho4 hn4
      have HO4 := hide ho4
      have Hn4 := hide hn4
      have HAT4 := hide (k4.owns HAT3.out (by decide) (by simp))
      have HD4 := hide (HD3.out.kb5 k4)
      have kb4 := kb3.next k4
      clear ho4 hn4 k4 HAT3 HD3 kb3 HPU hpre
      have hprel : n4 ≤ n0 + 24 := by omega
      obtain ⟨H0, hH0⟩ : ∃ H0, w.heap.size = H0 := ⟨_, rfl⟩
      rw [hH0] at HAT4
      have hH0' : base ≤ H0 := by omega
      clear hH0
      have hb4 : base ≤ w4.heap.size := by omega
      go_wp2_with fail
      go_loopw [0, 10] (fun ov iv wr => ∃ (k : Nat) (ao : Option Addr) (co n' : Nat), k ≤ m ∧ iv = .int .i64 k ∧ ov = .slice ao n' co ∧ (pre ++ entB 0 (P.take k)).length = n' ∧ wr.ownsRow base 5 1 (.slice ao n' co) n' (byV (pre ++ entB 0 (P.take k))) ∧ wr.ownsRow H0 3 1 (.slice a m c) m (intV (P.map Prod.fst)) ∧ DocsIs wr B (.slice au N cu) T vs ∧ base ≤ wr.heap.size ∧ Kb 5 [] base w wr) (fun _ iv _ => m - (intOf iv).toNat)
      case atStart => exact ⟨0, a4, c4, n4, by omega, rfl, rfl, by simpa [entB] using Hn4.out, by simpa [entB] using HO4.out, HAT4.out, HD4.out, hb4, kb4⟩
      case round =>
        clear HO4 HAT4 HD4 kb4 hb4
        obtain ⟨k, ao, co, n', hk, rfl, rfl, hn', ho', hat, hd, hbase, hkb⟩ := hrel
        by_cases hlt2 : k < m
        · have hkP : k < P.length := by rw [Hm.out]; exact hlt2
          have hca : 0 < m := by omega
          obtain ⟨ga, hga⟩ : ∃ ga, a = some ⟨ga, 0, none⟩ := by
            obtain ⟨x1, x2, x3, x4⟩ := owns_forms hat
            cases x3; exact x4 hca
          have hatc := hat
          rw [hga] at hatc
          have hc := ints_cells hatc (by simp [Hm.out]) k (by simpa using hkP)
          simp only [List.getElem_map] at hc
          have hsp := ent_split P 0 k hkP
          obtain ⟨b1, b2, b3, b4, b5, b6⟩ := ok_at N P 0 k hkP HOK.out
          obtain ⟨hdT, hps⟩ := HPA.out P[k] (List.getElem_mem hkP)
          have hlen := ent_len N (P.take k) 0 (ok_take N P 0 k HOK.out)
          have hct := cntP_take P k
          have hdv : P[k].1 < vs.length := by rw [hd.len]; exact hdT
          obtain ⟨gd, hgd⟩ := hau (by omega)
          have hdc := hd
          rw [hgd] at hdc
          obtain ⟨q0, q1, q2⟩ := hdc.cells P[k].1 hdT hdv
          have hw := hd.each P[k].1 hdT hdv
          obtain ⟨aw, cw, ew, _⟩ := owns_forms hw
          rw [ew] at q1 hw
          have hwl := HWS.out T[P[k].1] (List.getElem_mem hdT)
          have hn'l : n' ≤ 1900100 := by rw [← hn', List.length_append, Hn4.out]; omega
          obtain ⟨ws, hws⟩ : ∃ ws, T[P[k].1].2 = ws := ⟨_, rfl⟩
          rw [hws] at q1 hw hwl hps
          have HPLW := fun w' (k' : Kp [] wr w') => hide (rplaces_any B _ ws t w' (k'.owns hw (by simp)) (by omega))
          rw [← hps] at HPLW
          have hgal := (hatc.lt ga rfl).2
          have hgdl := (hdc.row.lt gd rfl).2
          obtain ⟨le, hle⟩ : ∃ le, (if k = 0 then 0 else (P.map Prod.fst).getD (k - 1) 0 + 1) = le := ⟨_, rfl⟩
          have hpv : k ≠ 0 → ∃ y, le = y + 1 ∧ wr.cell? ⟨ga, k - 1, none⟩ = some (.int .i64 (y : Int)) := by
            intro h0
            have hk1 : k - 1 < (P.map Prod.fst).length := by rw [List.length_map]; omega
            refine ⟨(P.map Prod.fst)[k - 1], ?_, ints_cells hatc (by simp [Hm.out]) (k - 1) hk1⟩
            rw [← hle, if_neg h0, getD_at _ _ hk1]
          have hz : k = 0 → le = 0 := fun h0 => by rw [← hle, if_pos h0]
          rw [hle] at hsp b1
          obtain ⟨d, hdE⟩ : ∃ d, P[k].1 = d := ⟨_, rfl⟩
          obtain ⟨ps, hpsE⟩ : ∃ ps, P[k].2 = ps := ⟨_, rfl⟩
          rw [hdE] at hc hsp b1 b2 q1
          rw [hpsE] at hsp b3 b4 b5 b6 HPLW
          have hbd : ∀ x ∈ ps, x < 268435456 := fun x hx => by have := b6 x hx; omega
          obtain ⟨dd, hdd⟩ : ∃ dd, d - le = dd := ⟨_, rfl⟩
          rw [hdd] at hsp
          have hddl : dd < 268435456 := by omega
          have HSP := hide hsp
          have HRS := hide b5
          have HBD := hide hbd
          have Hn' := hide hn'
          have HO' := hide ho'
          have HAT := hide hat
          have HD := hide hd
          subst hga
          subst hgd
          have hdN : d < N := b2
          have hnpl : ps.length ≤ 60 := b4
          clear hsp b5 b6 hbd hn' ho' hat hd hatc hdc q0 q2 hps hpsE hdE hws hle hw ew hlen hct hdv hwl
          by_cases h0 : k = 0
          · have hle0 := hz h0
            subst h0
            have hdd0 : dd = d := by rw [← hdd, hle0, Nat.sub_zero]
            subst hdd0
            have HPL := HPLW wr (Kp.refl _ _)
            clear HPLW hpv hz hdd
            go_wp2_with fail
            refine HPL.out.mono ?_
            rintro e w2 ⟨ap, cp, np, hnp, rfl, hp2, k2⟩
            have hz2' : wr.heap.size ≤ w2.heap.size := k2.size
            have hnp60 : np ≤ 60 := by rw [← hnp]; exact hnpl
            have hb2 : base ≤ w2.heap.size := by omega
            have ho2 := k2.owns HO'.out (by simp)
            have hat2 := k2.owns HAT.out (by simp)
            have hd2 := HD.out.kp0 k2
            have kb2 : Kb 5 [] base w w2 := hkb.next (Kb.of_kp (S := []) k2 (by simp))
            have HPU := hide (rput_n base ao co n' _ dd w2 ho2 Hn'.out hb2 (by omega) (by omega))
            have HP2 := hide hp2
            have Hnp := hide hnp
            have HAT2 := hide hat2
            have HD2 := hide hd2
            clear ho2 hp2 hnp hat2 hd2 HPL k2 HO' q1
            go_wp2_with fail
            refine HPU.out.mono ?_
            rintro e w3 ⟨a3, c3, n3, hn3, rfl, ho3, k3⟩
            have hz3' := k3.size
            have hp3 := k3.owns HP2.out (by decide) (by simp)
            have hat3 := k3.owns HAT2.out (by decide) (by simp)
            have hd3 := HD2.out.kb5 k3
            have hl3 : n3 ≤ n' + 4 := by rw [← hn3, List.length_append, Hn'.out]; have := numB_len dd; omega
            have HPU3 := hide (rput_n base a3 c3 n3 _ np w3 ho3 hn3 (by omega) (by omega) (by omega))
            have HP3 := hide hp3
            have HAT3 := hide hat3
            have HD3 := hide hd3
            have Hn3 := hide hn3
            have kb3 := kb2.next k3
            clear ho3 hp3 hat3 hd3 hn3 k3 kb2 HPU HP2 HAT2 HD2
            go_wp2_with fail
            refine HPU3.out.mono ?_
            rintro e w4 ⟨a4, c4, n4, hn4, rfl, ho4, k4⟩
            have hz4' := k4.size
            have hp4 := k4.owns HP3.out (by decide) (by simp)
            have hat4 := k4.owns HAT3.out (by decide) (by simp)
            have hd4 := HD3.out.kb5 k4
            have hl4 : n4 ≤ n3 + 4 := by rw [← hn4, List.length_append, Hn3.out]; have := numB_len np; omega
            have HRI := hide (rrising_n base wr.heap.size a4 ap c4 n4 cp np _ ps w4 ho4 hn4 hp4 Hnp.out (by omega) (by omega) (by omega) HRS.out HBD.out)
            have HAT4 := hide hat4
            have HD4 := hide hd4
            have kb4 := kb3.next k4
            clear ho4 hp4 hat4 hd4 hn4 k4 kb3 HPU3 HP3 HAT3 HD3
            go_wp2_with fail
            refine HRI.out.mono ?_
            rintro e w5 ⟨a5, c5, n5, hn5, rfl, ho5, k5⟩
            have hz5' := k5.size
            have hat5 := k5.owns HAT4.out (by decide) (by simp)
            have hd5 := HD4.out.kb5 k5
            have kb5 := kb4.next k5
            have HO5 := hide ho5
            have Hn5 := hide hn5
            have HAT5 := hide hat5
            have HD5 := hide hd5
            clear ho5 hn5 hat5 hd5 k5 kb4 HRI HAT4 HD4
            have he : Hid ((((pre ++ entB 0 (P.take 0)) ++ numB dd) ++ numB np) ++ riseB 0 ps = pre ++ entB 0 (P.take (0 + 1))) := by
              show _ = _
              rw [HSP.out, Hnp.out]
              simp only [List.append_assoc]
            go_wp2_with fail
            go_roundw
            case rel => exact ⟨0 + 1, a5, c5, n5, by omega, by go_num, rfl, by rw [← he.out]; exact Hn5.out, by rw [← he.out]; exact HO5.out, HAT5.out, HD5.out, by omega, kb5⟩
            case measure => simp [intOf]; omega
          · obtain ⟨y, hy1', hy2'⟩ := hpv h0
            obtain ⟨j, hj⟩ : ∃ j, k = j + 1 := ⟨k - 1, by omega⟩
            subst hj
            rw [Nat.add_sub_cancel] at hy2'
            have hsub : (d : Int) - (y : Int) - 1 = (dd : Int) := by clear hpv hz; omega
            have Hsub := hide hsub
            have HPL := HPLW wr.drew ((Kp.refl _ _).drewN 1)
            have hyd : y + 1 ≤ d := by clear hpv hz; omega
            clear HPLW hpv hz hdd hsub hy1'
            go_wp2_with fail
            go_region
            rw [show (d : Int) - (y : Int) - 1 = (dd : Int) from Hsub.out]
            go_wp2_with fail
            refine HPL.out.mono ?_
            rintro e w2 ⟨ap, cp, np, hnp, rfl, hp2, k2⟩
            have hz2' : wr.heap.size ≤ w2.heap.size := k2.size
            have hnp60 : np ≤ 60 := by rw [← hnp]; exact hnpl
            have hb2 : base ≤ w2.heap.size := by omega
            have ho2 := k2.owns HO'.out.drew (by simp)
            have hat2 := k2.owns HAT.out.drew (by simp)
            have hd2 := HD.out.drew.kp0 k2
            have kb2 : Kb 5 [] base w w2 := (hkb.next (Kb.of_kp (S := []) ((Kp.refl [] wr).drewN 1) (by simp))).next (Kb.of_kp (S := []) k2 (by simp))
            have HPU := hide (rput_n base ao co n' _ dd w2 ho2 Hn'.out hb2 (by omega) (by omega))
            have HP2 := hide hp2
            have Hnp := hide hnp
            have HAT2 := hide hat2
            have HD2 := hide hd2
            clear ho2 hp2 hnp hat2 hd2 HPL k2 HO' q1
            go_wp2_with fail
            refine HPU.out.mono ?_
            rintro e w3 ⟨a3, c3, n3, hn3, rfl, ho3, k3⟩
            have hz3' := k3.size
            have hp3 := k3.owns HP2.out (by decide) (by simp)
            have hat3 := k3.owns HAT2.out (by decide) (by simp)
            have hd3 := HD2.out.kb5 k3
            have hl3 : n3 ≤ n' + 4 := by rw [← hn3, List.length_append, Hn'.out]; have := numB_len dd; omega
            have HPU3 := hide (rput_n base a3 c3 n3 _ np w3 ho3 hn3 (by omega) (by omega) (by omega))
            have HP3 := hide hp3
            have HAT3 := hide hat3
            have HD3 := hide hd3
            have Hn3 := hide hn3
            have kb3 := kb2.next k3
            clear ho3 hp3 hat3 hd3 hn3 k3 kb2 HPU HP2 HAT2 HD2
            go_wp2_with fail
            refine HPU3.out.mono ?_
            rintro e w4 ⟨a4, c4, n4, hn4, rfl, ho4, k4⟩
            have hz4' := k4.size
            have hp4 := k4.owns HP3.out (by decide) (by simp)
            have hat4 := k4.owns HAT3.out (by decide) (by simp)
            have hd4 := HD3.out.kb5 k4
            have hl4 : n4 ≤ n3 + 4 := by rw [← hn4, List.length_append, Hn3.out]; have := numB_len np; omega
            have HRI := hide (rrising_n base wr.heap.size a4 ap c4 n4 cp np _ ps w4 ho4 hn4 hp4 Hnp.out (by omega) (by omega) (by omega) HRS.out HBD.out)
            have HAT4 := hide hat4
            have HD4 := hide hd4
            have kb4 := kb3.next k4
            clear ho4 hp4 hat4 hd4 hn4 k4 kb3 HPU3 HP3 HAT3 HD3
            go_wp2_with fail
            refine HRI.out.mono ?_
            rintro e w5 ⟨a5, c5, n5, hn5, rfl, ho5, k5⟩
            have hz5' := k5.size
            have hat5 := k5.owns HAT4.out (by decide) (by simp)
            have hd5 := HD4.out.kb5 k5
            have kb5 := kb4.next k5
            have HO5 := hide ho5
            have Hn5 := hide hn5
            have HAT5 := hide hat5
            have HD5 := hide hd5
            clear ho5 hn5 hat5 hd5 k5 kb4 HRI HAT4 HD4
            have he : Hid ((((pre ++ entB 0 (P.take (j + 1))) ++ numB dd) ++ numB np) ++ riseB 0 ps = pre ++ entB 0 (P.take ((j + 1) + 1))) := by
              show _ = _
              rw [HSP.out, Hnp.out]
              simp only [List.append_assoc]
            go_wp2_with fail
            go_roundw
            case rel => exact ⟨(j + 1) + 1, a5, c5, n5, by omega, by go_num, rfl, by rw [← he.out]; exact Hn5.out, by rw [← he.out]; exact HO5.out, HAT5.out, HD5.out, by omega, kb5⟩
            case measure => simp [intOf]; omega
        · have ek : m = k := by omega
          subst ek
          rw [show P.take m = P by rw [← Hm.out, List.take_length]] at hn' ho'
          have Hn' := hide hn'
          have HO' := hide ho'
          clear hn' ho' hat hd
          go_wp2_with fail
          go_ret
          refine ⟨ao, co, n', ?_, rfl, ?_, hkb⟩
          · rw [HPe.out, hfin.out]; exact Hn'.out
          · rw [HPe.out, hfin.out]; exact HO'.out
end Go.Proofs.YtbkepgmgebmceaaGreatDoor.Pak
