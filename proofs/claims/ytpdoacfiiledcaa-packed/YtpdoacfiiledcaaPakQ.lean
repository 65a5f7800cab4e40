import Derived.Test.YtpdoacfiiledcaaPakP
namespace Go.Proofs.Ytpdoacfiiledcaa.Pak
open Go.RowKit Go.Proofs.Ytpdoacfiiledcaa SiftM
set_option linter.unusedVariables false

def termN (N : Nat) (s : TS) : Nat → TS
  | 0 => s
  | k + 1 => termF N (termN N s k)
def no : Nat → Nat → Option Nat := fun _ _ => none
def stMark (st : Option (List UInt8)) : Option (List UInt8) := if (textF st 1).1 = [83] then (textF st 1).2 else none
/-- What a reader gives: the ids, and the rest. -/
def tableF (st : Option (List UInt8)) : List Nat × TS :=
  let n := numF (stMark st) 0 60
  let r := riseN 99999 n.2 n.1
  let m := numF r.2.2 0 3600
  (r.1, termN r.1.length ([], 0, no, m.2) m.1)
theorem termN_len (N : Nat) (s : TS) : ∀ k, (termN N s k).1.length = s.1.length + k
  | 0 => rfl
  | k + 1 => by
    have := termN_len N s k
    simp only [termN, termF, List.length_append, List.length_singleton]; omega
theorem termN_c (N : Nat) (hN : N ≤ 60) (s : TS) : ∀ k, (termN N s k).2.1 ≤ s.2.1 + 3600 * k
  | 0 => by simp [termN]
  | k + 1 => by
    have h := termN_c N hN s k
    simp only [termN, termF]
    generalize termN N s k = x at *
    obtain ⟨ts, c, f, st⟩ := x
    simp only at h ⊢
    have h2 := docN_c ts.length N (0, c, f, (numF (stTerm ts st) 1 N).2) (numF (stTerm ts st) 1 N).1
    have h3 := numF_le (stTerm ts st) 1 N
    simp only at h2
    omega

set_option maxHeartbeats 1000000 in
set_option maxRecDepth 100000 in
theorem table_rd (R B : Nat) (st : Option (List UInt8)) (w : World) (h : Rd w R B st) (hBw : B ≤ w.heap.size) :
    Calls Try.prog 36 #[.pointer (some ⟨R, 0, none⟩)] w fun e w' => ∃ T M iv tv,
      e = .returned (.agg #[iv, tv, .map (some M)]) ∧ Rd w' R B (tableF st).2.2.2.2 ∧ Tabl w' T B (tableF st).1 (tableF st).2.1 M (tableF st).2.2.1 (tableF st).2.2.2.1 iv tv ∧ Below B w w' := by
  have hmm := @run_makeMap Try.prog
  have hRB := h.le
  obtain ⟨x0, y0, hb⟩ := h.block
  have hRw := heap_lt hb
  unfold tableF stMark
  have ht1 := fun w' (h' : Rd w' R B st) => text_rd R B st 1 w' h' (by omega)
  obtain ⟨tm, s1, hE1⟩ : ∃ t s, textF st 1 = (t, s) := ⟨_, _, rfl⟩
  rw [hE1] at ht1 ⊢
  simp only at ht1 ⊢
  obtain ⟨s2, hs2⟩ : ∃ s2, (if tm = [83] then s1 else none) = s2 := ⟨_, rfl⟩
  rw [hs2]
  have hn2 := fun w' (h' : Rd w' R B s2) => number_rd R B s2 0 60 w' h' (by omega)
  have hn60 := numF_le s2 0 60
  rw [show ((60 : Nat) : Int) = 60 from rfl] at hn60
  obtain ⟨n, s3, hE3⟩ : ∃ n s, numF s2 0 60 = (n, s) := ⟨_, _, rfl⟩
  rw [hE3] at hn2 hn60 ⊢
  simp only at hn2 hn60 ⊢
  have hri := fun w' (h' : Rd w' R B s3) (hB' : B ≤ w'.heap.size) => rising_rd R B s3 n 99999 w' h' (by omega) (by omega) (by omega) hB'
  have hidl := riseN_len 99999 s3 n
  obtain ⟨ids, le, s4, hE4⟩ : ∃ l le s, riseN 99999 s3 n = (l, le, s) := ⟨_, _, _, rfl⟩
  rw [hE4] at hri hidl ⊢
  simp only at hri hidl ⊢
  have hn5 := fun w' (h' : Rd w' R B s4) => number_rd R B s4 0 3600 w' h' (by omega)
  have hm36 := numF_le s4 0 3600
  rw [show ((3600 : Nat) : Int) = 3600 from rfl] at hm36
  obtain ⟨m, s5, hE5⟩ : ∃ n s, numF s4 0 3600 = (n, s) := ⟨_, _, rfl⟩
  rw [hE5] at hn5 hm36 ⊢
  simp only at hn5 hm36 ⊢
  have htl := termN_len ids.length ([], 0, no, s5)
  have htc := termN_c ids.length (by omega) ([], 0, no, s5)
  simp only [List.length_nil, Nat.zero_add] at htl htc
  have HH := hide h
  have Ht1 := hide ht1
  have Hs2 := hide hs2
  have Hn2 := hide hn2
  have Hri := hide hri
  have Hn5 := hide hn5
  have Htl := hide htl
  have Htc := hide htc
  have Hidl := hide hidl
  clear h ht1 hs2 hn2 hri hn5 hE1 hE3 hE4 hE5 hb x0 y0 htl htc hidl
  go_enter Try.func36, Try.ntmps36
  go_wp2_with fail
  obtain ⟨W0, hW0⟩ : ∃ W0, w.alloc (.cells #[.slice none 0 0, .slice none 0 0, .map none] 66) = W0 := ⟨_, rfl⟩
  rw [hW0]
  have k0 : Kp [] w W0 := by rw [← hW0]; exact (Kp.refl _ _).alloc _
  have hT0 : W0.heap[w.heap.size]? = some (.cells #[.slice none 0 0, .slice none 0 0, .map none] 66 (0, 0)) := by rw [← hW0]; exact heap_alloc_new w _
  have hsz0 : W0.heap.size = w.heap.size + 1 := by rw [← hW0]; simp
  have hR0 := HH.out.kp k0 (by simp) (by simp)
  have HT0 := hide hT0
  clear hT0 hW0
  refine (Ht1.out W0 hR0).mono ?_
  rintro e w1 ⟨rfl, hr1, hk1⟩
  have HR1 := hide hr1
  clear hr1 hR0
  by_cases htm : tm = [83]
  case' pos =>
    subst htm
    go_wp2_with fail
    obtain ⟨w2, hw2⟩ : ∃ w2, w2 = w1 := ⟨_, rfl⟩
    subst hw2
    have HR2 : Hid (Rd w2 R B s2) := by
      have e := Hs2.out
      rw [if_pos (by simp)] at e
      rw [← e]; exact HR1.out
    have hk2 := hk1
  case' neg =>
    have hne : (tm == [83]) = false := by simpa using htm
    go_wp2_with fail
    refine (fail_any R B hRB _ _ w1 (Classical.choose_spec (Classical.choose_spec HR1.out.block))).mono ?_
    rintro e w2 ⟨rfl, hr2, hk2'⟩
    have HR2 : Hid (Rd w2 R B s2) := by
      have e := Hs2.out
      rw [if_neg htm] at e
      rw [← e]; exact hr2
    have hk2 := hk1.next hk2'
    clear hr2 hk2' hne
    go_wp2_with fail
  all_goals
    have hk02 : Kp [R] w w2 := k0.mono (by simp) |>.next hk2
    have hT2 := hk2.heap HT0.out (by simp; omega)
    have hsz2 := hk2.size
    obtain ⟨W3, hW3⟩ : ∃ W3, (w2.alloc (.map #[] 0)).alloc (.cells #[.slice none 0 0, .slice none 0 0, .map (some w2.heap.size)] 66) = W3 := ⟨_, rfl⟩
    rw [hW3]
    have k3 : Kp [] w2 W3 := by rw [← hW3]; exact ((Kp.refl _ _).alloc _).alloc _
    have hT3 : W3.heap[w2.heap.size + 1]? = some (.cells #[.slice none 0 0, .slice none 0 0, .map (some w2.heap.size)] 66 (0, 0)) := by
      rw [← hW3]
      have := heap_alloc_new (w2.alloc (.map #[] 0)) (.cells #[.slice none 0 0, .slice none 0 0, .map (some w2.heap.size)] 66)
      simpa using this
    have hM3 : MapIs W3 w2.heap.size 0 no := by
      have := mapIs_made w2
      refine MapIs.kp (S := []) this ?_ (by simp)
      rw [← hW3]; exact (Kp.refl _ _).alloc _
    have hsz3 : W3.heap.size = w2.heap.size + 2 := by rw [← hW3]; simp
    have hR3 := HR2.out.kp k3 (by simp) (by simp)
    have hT03 := k3.heap hT2 (by simp)
    have k03 : Kp [R] w W3 := hk02.next (k3.mono (by simp))
    have HT3 := hide hT3
    have HM3 := hide hM3
    have HT03 := hide hT03
    clear hT3 hM3 hT03 hT2 hW3 k3 HT0
    refine (Hn2.out W3 hR3).mono ?_
    rintro e w4 ⟨rfl, hr4, hk4⟩
    have HR4 := hide hr4
    have hsz4 := hk4.size
    clear hr4 hR3
    go_wp2_with fail
    refine (Hri.out w4 HR4.out (by omega)).mono ?_
    rintro e w5 ⟨v, rfl, hv5, hr5, hk5⟩
    have hk35 := hk4.next hk5
    have hT5 := hk35.heap HT3.out (by simp; omega)
    have hM5 := HM3.out.kp hk35 (by simp; omega)
    have hT05 := hk35.heap HT03.out (by simp; omega)
    have hsz5 := hk5.size
    obtain ⟨d0, d1, d2, gz0, gz1, gz2⟩ := tb_cells hT5
    obtain ⟨av, cv, ev, _⟩ := owns_forms hv5
    subst ev
    obtain ⟨W6, hW6⟩ : ∃ W6, w5.setCell ⟨w2.heap.size + 1, 0, none⟩ (.slice av n cv) = W6 := ⟨_, rfl⟩
    have k6 : Kp [w2.heap.size + 1] w5 W6 := by rw [← hW6]; exact (Kp.refl _ _).setCell (.inl (by simp)) _
    have hT6 : W6.heap[w2.heap.size + 1]? = some (.cells #[.slice av n cv, .slice none 0 0, .map (some w2.heap.size)] 66 (0, 0)) := by
      rw [← hW6, heap_setCell_same w5 (w2.heap.size + 1) 0 _ 66 (.slice av n cv) hT5]; rfl
    have ht6 : Tabl W6 (w2.heap.size + 1) B ids [] w2.heap.size 0 no (.slice av n cv) (.slice none 0 0) := by
      refine ⟨hT6, ?_, World.ownsRow_nil _ _ _ _, hM5.kp k6 (by simp), by omega, by omega⟩
      have h1 := k6.owns hv5 (fun g hg hx => by simp at hx; have := (hv5.lt g hg).1; omega)
      rw [Hidl.out]
      refine ⟨h1.1, ?_⟩
      rcases h1.2 with h | ⟨g, cap, cur, e, hb, rest⟩
      · exact .inl h
      · exact .inr ⟨g, cap, cur, e, by omega, rest⟩
    have hR6 := hr5.kp k6 (by simp; omega) (by simp; omega)
    have hT06 := k6.heap hT05 (by simp; omega)
    have hsz6 := k6.size
    have k06 : Kp [R] w W6 := (k03.next hk35).trans k6 (by simp; omega)
    have HT6 := hide ht6
    have HR6 := hide hR6
    have HT06 := hide hT06
    clear hT5 hM5 hT05 hv5 hr5 hT6 ht6 hR6 hT06 HT3 HM3 HT03 HR4
    go_wp2_with fail
    clear hW6 d0 d1 d2 gz0 gz1 gz2
    refine (Hn5.out W6 HR6.out).mono ?_
    rintro e w7 ⟨rfl, hr7, hk7⟩
    have hb6 := HR6.out.block
    have ht7 : Tabl w7 (w2.heap.size + 1) B ids [] w2.heap.size 0 no (.slice av n cv) (.slice none 0 0) := HT6.out.kp hk7 (HT6.out.map.kp hk7 (by simp; omega)) (by simp; omega) (fun x hx => by simp at hx; subst hx; exact owns_ne HT6.out.ids (Classical.choose_spec (Classical.choose_spec hb6)) (by decide)) (fun x hx => by simp [Value.ownBlock])
    have hT07 := hk7.heap HT06.out (by simp; omega)
    have k07 : Kp [R] w w7 := k06.next hk7
    have hsz7 := hk7.size
    have HR7 := hide hr7
    have HT7 := hide ht7
    have HT07 := hide hT07
    clear hr7 ht7 hT07 HR6 HT6 HT06 hb6
    go_wp2_with fail
    go_loopw [18] (fun kv wr => ∃ (k : Nat) (tv : Value), k ≤ m ∧ kv = .int .i64 k ∧ Rd wr R B (termN ids.length ([], 0, no, s5) k).2.2.2 ∧ Tabl wr (w2.heap.size + 1) B ids (termN ids.length ([], 0, no, s5) k).1 w2.heap.size (termN ids.length ([], 0, no, s5) k).2.1 (termN ids.length ([], 0, no, s5) k).2.2.1 (.slice av n cv) tv ∧ wr.heap[w.heap.size]? = some (.cells #[.slice none 0 0, .slice none 0 0, .map none] 66 (0, 0)) ∧ B ≤ wr.heap.size ∧ Below B w wr) (fun kv _ => m - (intOf kv).toNat)
    case atStart => exact ⟨0, _, by omega, rfl, HR7.out, HT7.out, HT07.out, by omega, k07.below hBw (by simpa using hRB)⟩
    case round =>
      clear HR7 HT7 HT07 k07
      obtain ⟨k, tv, hk, rfl, hr, htb, hT0, hBr, hbel⟩ := hrel
      by_cases hlt : k < m
      · have hlk := Htl.out k
        have hck := Htc.out k
        have hstep : Hid (termN ids.length ([], 0, no, s5) (k + 1) = termF ids.length (termN ids.length ([], 0, no, s5) k)) := rfl
        generalize termN ids.length ([], 0, no, s5) k = x at *
        obtain ⟨ts, c', f', s'⟩ := x
        simp only at hr htb hlk hck
        have hP := term_rd R B (w2.heap.size + 1) w2.heap.size c' ids ts f' (.slice av n cv) tv s' wr hr htb (by rw [Hidl.out]; exact hn60) (by omega) (by omega) hBr
        have HP := hide hP
        have HT0 := hide hT0
        clear hP hr htb hT0
        go_wp2_with fail
        refine HP.out.mono ?_
        rintro e w8 ⟨tv', rfl, hr8, ht8, hk8⟩
        have hT8 := hk8.heap (by simp; omega) HT0.out (by decide)
        have hsz8 := hk8.size
        have HR8 := hide hr8
        have HT8 := hide ht8
        have HT08 := hide hT8
        clear hr8 ht8 hT8
        go_wp2_with fail
        go_roundw
        case rel =>
          refine ⟨k + 1, tv', by omega, by go_num, ?_, ?_, HT08.out, by omega, hbel.trans (hk8.below hBr (by simp; omega) (Nat.le_refl _))⟩
          · rw [hstep.out]; exact HR8.out
          · rw [hstep.out]; exact HT8.out
        case measure => simp [intOf]; omega
      · have ek : k = m := by omega
        subst ek
        obtain ⟨b0, b1, b2, _, _, _⟩ := tb_cells htb.blk
        obtain ⟨e0, e1, e2, fz0, fz1, fz2⟩ := tb_cells hT0
        obtain ⟨at', ct, et, _⟩ := owns_forms htb.terms
        subst et
        have HR := hide hr
        have HTB := hide htb
        have HT0 := hide hT0
        clear hr htb hT0
        go_wp2_with fail
        have ks : Kp [w.heap.size] wr (((wr.setCell ⟨w.heap.size, 0, none⟩ (.slice av n cv)).setCell ⟨w.heap.size, 1, none⟩ (.slice at' (termN ids.length ([], 0, no, s5) k).1.length ct)).setCell ⟨w.heap.size, 2, none⟩ (.map (some w2.heap.size))) := (((Kp.refl _ _).setCell (.inl (by simp)) _).setCell (.inl (by simp)) _).setCell (.inl (by simp)) _
        refine bodyPost_ret (v := .agg #[.slice av n cv, .slice at' (termN ids.length ([], 0, no, s5) k).1.length ct, .map (some w2.heap.size)]) (by simp [results, Try.results36, go_sem, e0, e1, e2]) rfl ⟨w2.heap.size + 1, w2.heap.size, _, _, rfl, ?_, ?_, ?_⟩
        · exact HR.out.kp ks (by simp; omega) (by simpa using hBw)
        · refine HTB.out.kp ks (HTB.out.map.kp ks (by simp; omega)) (by simp; omega) (fun x hx => ?_) (fun x hx => ?_)
          · simp at hx; subst hx; exact owns_ne HTB.out.ids HT0.out (by decide)
          · simp at hx; subst hx; exact owns_ne HTB.out.terms HT0.out (by decide)
        · exact hbel.trans (ks.below hBr (by simpa using hBw))
end Go.Proofs.Ytpdoacfiiledcaa.Pak
