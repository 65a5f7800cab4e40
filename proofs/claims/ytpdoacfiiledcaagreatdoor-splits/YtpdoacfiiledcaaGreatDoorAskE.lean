import Derived.Test.YtpdoacfiiledcaaGreatDoorAskD
namespace Go.Proofs.YtpdoacfiiledcaaGreatDoor
open Go.RowKit ChkM
open Pak (Kp)
set_option linter.unusedVariables false

theorem part_bang {f d : Nat} {l : List UInt8} (hd : d < 5) (h : (takeC 33 l).1 = true) : ps (f + 1) 0 d l = ps f 0 (d + 1) (takeC 33 l).2 := by rw [ps, if_pos ⟨hd, h⟩]
theorem part_open {f d : Nat} {l : List UInt8} (hd : d < 5) (h : (takeC 33 l).1 = false) (h2 : (takeC 40 l).1 = true) :
    ps (f + 1) 0 d l = if (ps f 2 (d + 1) (takeC 40 l).2).1 then takeC 41 (ps f 2 (d + 1) (takeC 40 l).2).2 else (false, (ps f 2 (d + 1) (takeC 40 l).2).2) := by
  rw [ps, if_neg (by simp [h]), if_pos ⟨hd, h2⟩]
theorem part_low {f d : Nat} {l : List UInt8} (h : d < 5 → (takeC 33 l).1 = false) (h2 : d < 5 → (takeC 40 l).1 = false) :
    ps (f + 1) 0 d l = if (takeC 34 l).1 then phraseP (l.length + 1) (takeC 34 l).2 else termP l := by
  rw [ps, if_neg, if_neg]
  · rintro ⟨a, b⟩; rw [h2 a] at b; simp at b
  · rintro ⟨a, b⟩; rw [h a] at b; simp at b
theorem takeC_same {c : UInt8} {s : ByteArray} {k k2 : Nat} (h : (takeC c (s.data.toList.drop k)).1 = false) (h2 : (takeC c (s.data.toList.drop k)).2 = s.data.toList.drop k2) (hk : k ≤ s.size) (hk2 : k2 ≤ s.size) : k2 = k := by
  rw [(takeC_no h).1] at h2
  have := congrArg List.length h2
  rw [List.length_drop, List.length_drop] at this
  have hl : s.data.toList.length = s.size := by simp
  omega
theorem drop_length (s : ByteArray) (k : Nat) : (s.data.toList.drop k).length = s.size - k := by rw [List.length_drop]; simp

/-- Where a part stands: the reader, the answer's box, what has turned. -/
def At (w : World) (B : Nat) (s : ByteArray) (k : Nat) (w' : World) : Prop := Pa w' B s k ∧ Bx w' w.heap.size 0 (.slice none 0 0) (.slice none 0 0) ∧ Kp [B] w w'
theorem At.step {w w1 w2 : World} {B k k2 : Nat} {s : ByteArray} (h : At w B s k w1) (hk : Kp [B] w1 w2) (hp : Pa w2 B s k2) (hB : B < w.heap.size) : At w B s k2 w2 :=
  ⟨hp, hk.heap h.2.1 (by simp; omega), h.2.2.next hk⟩
theorem At.past {w w1 : World} {B k : Nat} {s : ByteArray} (h : At w B s k w1) (o : Obj) : At w B s k (w1.alloc o) :=
  ⟨pa_kp h.1 ((Kp.refl [] w1).alloc o) (by simp), bx_past h.2.1 o, h.2.2.alloc o⟩
theorem At.drew {w w1 : World} {B k : Nat} {s : ByteArray} (h : At w B s k w1) : At w B s k w1.drew := ⟨h.1, h.2.1, kp_drew h.2.2⟩

theorem bx_cells_past2 {w : World} {Q : Nat} {kd : Int} {wv pv : Value} (h : Bx w Q kd wv pv) :
    (∀ o o', ((w.alloc o).alloc o').cell? ⟨Q, 0, none⟩ = some (.int .i64 kd)) ∧ (∀ o o', ((w.alloc o).alloc o').cell? ⟨Q, 1, none⟩ = some wv) ∧ (∀ o o', ((w.alloc o).alloc o').cell? ⟨Q, 2, none⟩ = some pv) ∧ (∀ o o', ((w.alloc o).alloc o').frozen? ⟨Q, 0, none⟩ = false) ∧ (∀ o o', ((w.alloc o).alloc o').frozen? ⟨Q, 1, none⟩ = false) ∧ (∀ o o', ((w.alloc o).alloc o').frozen? ⟨Q, 2, none⟩ = false) :=
  ⟨fun o o' => (bx_cells (bx_past (bx_past h o) o')).1, fun o o' => (bx_cells (bx_past (bx_past h o) o')).2.1, fun o o' => (bx_cells (bx_past (bx_past h o) o')).2.2.1, fun o o' => (bx_cells (bx_past (bx_past h o) o')).2.2.2.1, fun o o' => (bx_cells (bx_past (bx_past h o) o')).2.2.2.2.1, fun o o' => (bx_cells (bx_past (bx_past h o) o')).2.2.2.2.2⟩

set_option maxHeartbeats 2000000 in
set_option maxRecDepth 100000 in
theorem part_of (f : Nat) (ihP : CD 378 0 f) (ihQ : CD 225 2 f) : CD 378 0 (f + 1) := by
  intro s k B d w hs hk hf hd hp
  have hlen := hide (drop_length s k)
  replace hp := hide hp
  replace ihP := hide ihP
  replace ihQ := hide ihQ
  by_cases h5 : d < 5
  · go_enter Tryz.func378, Tryz.ntmps378
    go_wp2_with fail
    obtain ⟨W, hW, pW, r0, kW, hB⟩ := one_box s k B w hp.out
    have hA := hide (show At w B s k W from ⟨pW, r0, kW.mono (by simp)⟩)
    rw [hW]
    clear hp hW pW r0 kW
    refine (take_num _ 33 rfl s k B W hs hk hA.out.1).mono ?_
    rintro e w1 ⟨k1, rfl, a1, a2, hr1, hP1, hg1⟩
    have hA1 := hide (hA.out.step (kp_grown hg1) hP1 hB)
    replace hr1 := hide hr1
    clear hA hP1 hg1
    cases hb : (takeC 33 (List.drop k s.data.toList)).1
    · have e1 := takeC_same hb hr1.out hk a2
      subst e1
      clear hr1 a1 a2
      go_wp2_with fail
      refine (take_num _ 40 rfl s k1 B w1 hs hk hA1.out.1).mono ?_
      rintro e w2 ⟨k2, rfl, b1, b2, hr2, hP2, hg2⟩
      have hA2 := hide (hA1.out.step (kp_grown hg2) hP2 hB)
      replace hr2 := hide hr2
      clear hA1 hP2 hg2
      cases hc : (takeC 40 (List.drop k1 s.data.toList)).1
      · have e2 := takeC_same hc hr2.out hk b2
        subst e2
        clear hr2 b1 b2
        have HT := hide (part_low (f := f) (d := d) (l := List.drop k2 s.data.toList) (fun _ => hb) (fun _ => hc))
        clear hb hc
        go_wp2_with fail
        refine (take_num _ 34 rfl s k2 B w2 hs hk hA2.out.1).mono ?_
        rintro e w3 ⟨k3, rfl, c1, c2, hr3, hP3, hg3⟩
        have hA3 := hide (hA2.out.step (kp_grown hg3) hP3 hB)
        replace hr3 := hide hr3
        clear hA2 hP3 hg3
        cases hq : (takeC 34 (List.drop k2 s.data.toList)).1
        · have e3 := takeC_same hq hr3.out hk c2
          subst e3
          have HT2 : Hid (ps (f + 1) 0 d (List.drop k3 s.data.toList) = termP (List.drop k3 s.data.toList)) := by
            show _ = _
            rw [HT.out, hq]; rfl
          clear HT hq
          go_wp2_with fail
          refine (term_any s k3 B _ hs hk hA3.out.1).mono ?_
          rintro e w4 ⟨k4, v, rfl, ⟨kd1, a1, n1, c1', a2', n2, c2', rfl⟩, d1, d2, hr4, hP4, hk4⟩
          have hA4 := hide (hA3.out.step hk4 hP4 hB)
          replace hr4 := hide hr4
          obtain ⟨x0, x1, x2, y0, y1, y2⟩ := bx_cells hA4.out.2.1
          clear hA3 hP4 hk4
          go_wp2_with fail
          refine ret_query rfl (bx_store3 hA4.out.2.1 _ _ _) rfl rfl ?_
          rw [HT2.out]
          exact ⟨k4, _, rfl, ⟨kd1, a1, n1, c1', a2', n2, c2', rfl⟩, by omega, d2, hr4.out, pa_kp hA4.out.1 (kp_store3 _ _ _ _ _) (by simp; omega), hA4.out.2.2.trans (kp_store3 _ _ _ _ _) (fun x hx => by simp at hx; subst hx; exact .inr (Nat.le_refl _))⟩
        · have HT2 : Hid (ps (f + 1) 0 d (List.drop k2 s.data.toList) = phraseP (s.size - k2 + 1) (List.drop k3 s.data.toList)) := by
            show _ = _
            rw [HT.out, hq, if_pos rfl, hr3.out, hlen.out]
          have hpos : k2 + 1 ≤ k3 := Nat.le_of_eq (takeC_pos hq hr3.out hk c2).symm
          clear HT hq
          go_wp2_with fail
          refine (phrase_any s k3 B (s.size - k2 + 1) _ hs c2 (by omega) hA3.out.1).mono ?_
          rintro e w4 ⟨k4, v, rfl, ⟨kd1, a1, n1, c1', a2', n2, c2', rfl⟩, d1, d2, hr4, hP4, hk4⟩
          have hA4 := hide (hA3.out.step hk4 hP4 hB)
          replace hr4 := hide hr4
          obtain ⟨x0, x1, x2, y0, y1, y2⟩ := bx_cells hA4.out.2.1
          clear hA3 hP4 hk4
          go_wp2_with fail
          refine ret_query rfl (bx_store3 hA4.out.2.1 _ _ _) rfl rfl ?_
          rw [HT2.out]
          exact ⟨k4, _, rfl, ⟨kd1, a1, n1, c1', a2', n2, c2', rfl⟩, by omega, d2, hr4.out, pa_kp hA4.out.1 (kp_store3 _ _ _ _ _) (by simp; omega), hA4.out.2.2.trans (kp_store3 _ _ _ _ _) (fun x hx => by simp at hx; subst hx; exact .inr (Nat.le_refl _))⟩
      · have hpos : k1 + 1 ≤ k2 := Nat.le_of_eq (takeC_pos hc hr2.out hk b2).symm
        have HT : Hid (ps (f + 1) 0 d (List.drop k1 s.data.toList) = if (ps f 2 (d + 1) (List.drop k2 s.data.toList)).1 then takeC 41 (ps f 2 (d + 1) (List.drop k2 s.data.toList)).2 else (false, (ps f 2 (d + 1) (List.drop k2 s.data.toList)).2)) := by
          show _ = _
          rw [part_open h5 hb hc, hr2.out]
        clear hb hc
        go_wp2_with fail
        rw [show ((d : Int) + 1) = ((d + 1 : Nat) : Int) by omega]
        refine (ihQ.out s k2 B (d + 1) _ hs b2 (by omega) (by omega) hA2.out.1).mono ?_
        rintro e w3 ⟨k3, v, rfl, ⟨kd1, a1, n1, c1', a2', n2, c2', rfl⟩, c1, c2, hr3, hP3, hk3⟩
        have hA3 := hide (hA2.out.step hk3 hP3 hB)
        replace hr3 := hide hr3
        clear hA2 hP3 hk3
        have hlt3 : w.heap.size < w3.heap.size := (Array.getElem?_eq_some_iff.1 hA3.out.2.1).1
        obtain ⟨x0, x1, x2, y0, y1, y2⟩ := bx_cells hA3.out.2.1
        obtain ⟨x0', x1', x2', y0', y1', y2'⟩ := bx_cells_past hA3.out.2.1
        cases hq : (ps f 2 (d + 1) (List.drop k2 s.data.toList)).1
        · have HT2 : Hid (ps (f + 1) 0 d (List.drop k1 s.data.toList) = (false, (ps f 2 (d + 1) (List.drop k2 s.data.toList)).2)) := by
            show _ = _
            rw [HT.out, hq]; rfl
          clear HT
          go_wp2_with fail
          obtain ⟨W4, hW4⟩ : ∃ W4, w3.alloc (.cells #[.int .i64 kd1, .slice a1 n1 c1', .slice a2' n2 c2'] 139) = W4 := ⟨_, rfl⟩
          have hA4 : Hid (At w B s k3 W4) := by show At _ _ _ _ _; rw [← hW4]; exact hA3.out.past _
          have bq : Bx W4 w3.heap.size kd1 (.slice a1 n1 c1') (.slice a2' n2 c2') := by rw [← hW4]; exact heap_alloc_new w3 _
          rw [hW4]
          clear hW4 x0 x1 x2 y0 y1 y2 x0' x1' x2' y0' y1' y2' hA3
          obtain ⟨x0, x1, x2, y0, y1, y2⟩ := bx_cells hA4.out.2.1
          obtain ⟨u0, u1, u2, _, _, _⟩ := bx_cells bq
          have HB := hide bq
          clear bq
          go_region
          all_goals
            go_wp2_with fail
            refine ret_query rfl (bx_store3 hA4.out.2.1 _ _ _) rfl rfl ?_
            rw [HT2.out]
            exact ⟨k3, _, rfl, ⟨kd1, a1, n1, c1', a2', n2, c2', rfl⟩, by omega, c2, hr3.out, pa_kp hA4.out.1 (kp_drew (kp_store3 W4 _ _ _ _)) (by simp; omega), hA4.out.2.2.trans (kp_drew (kp_store3 W4 _ _ _ _)) (fun x hx => by simp at hx; subst hx; exact .inr (Nat.le_refl _))⟩
        · have HT2 : Hid (ps (f + 1) 0 d (List.drop k1 s.data.toList) = takeC 41 (List.drop k3 s.data.toList)) := by
            show _ = _
            rw [HT.out, hq, if_pos rfl, hr3.out]
          clear HT
          go_wp2_with fail
          obtain ⟨W4, hW4⟩ : ∃ W4, w3.alloc (.cells #[.int .i64 kd1, .slice a1 n1 c1', .slice a2' n2 c2'] 139) = W4 := ⟨_, rfl⟩
          have hA4 : Hid (At w B s k3 W4) := by show At _ _ _ _ _; rw [← hW4]; exact hA3.out.past _
          have bq : Bx W4 w3.heap.size kd1 (.slice a1 n1 c1') (.slice a2' n2 c2') := by rw [← hW4]; exact heap_alloc_new w3 _
          rw [hW4]
          clear hW4 x0 x1 x2 y0 y1 y2 x0' x1' x2' y0' y1' y2' hA3
          obtain ⟨x0, x1, x2, y0, y1, y2⟩ := bx_cells hA4.out.2.1
          obtain ⟨u0, u1, u2, _, _, _⟩ := bx_cells bq
          have HB := hide bq
          clear bq
          have hne3 : ¬ w.heap.size = w3.heap.size := by omega
          have hne3' : ¬ w3.heap.size = w.heap.size := by omega
          go_region_held3 (fun w' => w'.cell? ⟨w3.heap.size, 0, none⟩ = some (.int .i64 kd1) ∧ w'.cell? ⟨w3.heap.size, 1, none⟩ = some (.slice a1 n1 c1') ∧ w'.cell? ⟨w3.heap.size, 2, none⟩ = some (.slice a2' n2 c2')) (first | go_keep | exact ⟨z0, z1, z2⟩) ((first | (go_at_call 377; refine (take_num 41 41 rfl s k3 B W4.drew hs c2 hA4.out.1).mono ?_; rintro e w5 ⟨k5, rfl, f1, f2, hr5, hP5, hg5⟩; have kg5 := kp_grown hg5; have hA5 := hA4.out.drew.step kg5 hP5 hB; obtain ⟨z0, z1, z2, _, _, _⟩ := bx_cells (show Bx w5 w3.heap.size kd1 (.slice a1 n1 c1') (.slice a2' n2 c2') from kg5.heap HB.out (by simp; omega)); obtain ⟨q0, q1, q2, p0, p1, p2⟩ := bx_cells hA5.2.1)))
          all_goals
            go_wp2_with fail
            refine ret_query rfl (bx_store3 hA5.2.1 _ _ _) rfl rfl ?_
            rw [HT2.out]
            exact ⟨k5, _, rfl, ⟨kd1, a1, n1, c1', a2', n2, c2', rfl⟩, by omega, f2, hr5, pa_kp hA5.1 (kp_store3 w5 _ _ _ _) (by simp; omega), hA5.2.2.trans (kp_store3 w5 _ _ _ _) (fun x hx => by simp at hx; subst hx; exact .inr (Nat.le_refl _))⟩
    · have hpos : k + 1 ≤ k1 := Nat.le_of_eq (takeC_pos hb hr1.out hk a2).symm
      have HT : Hid (ps (f + 1) 0 d (List.drop k s.data.toList) = ps f 0 (d + 1) (List.drop k1 s.data.toList)) := by
        show _ = _
        rw [part_bang h5 hb, hr1.out]
      clear hb
      go_wp2_with fail
      rw [show ((d : Int) + 1) = ((d + 1 : Nat) : Int) by omega]
      refine (ihP.out s k1 B (d + 1) _ hs a2 (by omega) (by omega) hA1.out.1).mono ?_
      rintro e w3 ⟨k3, v, rfl, ⟨kd1, a1, n1, c1', a2', n2, c2', rfl⟩, c1, c2, hr3, hP3, hk3⟩
      have hA3 := hide (hA1.out.step hk3 hP3 hB)
      replace hr3 := hide hr3
      clear hA1 hP3 hk3
      have hlt3 : w.heap.size < w3.heap.size := (Array.getElem?_eq_some_iff.1 hA3.out.2.1).1
      obtain ⟨x0, x1, x2, y0, y1, y2⟩ := bx_cells hA3.out.2.1
      obtain ⟨X0, X1, X2, Y0, Y1, Y2⟩ := bx_cells_past2 hA3.out.2.1
      go_wp2_with fail
      refine ret_query rfl (bx_past (bx_past (bx_store3 hA3.out.2.1 _ _ _) _) _) rfl rfl ?_
      rw [HT.out]
      exact ⟨k3, _, rfl, ⟨3, none, 0, 0, _, 1, 1, rfl⟩, by omega, c2, hr3.out, pa_kp hA3.out.1 (((kp_store3 w3 _ _ _ _).alloc _).alloc _) (by simp; omega), hA3.out.2.2.trans (((kp_store3 w3 _ _ _ _).alloc _).alloc _) (fun x hx => by simp at hx; subst hx; exact .inr (Nat.le_refl _))⟩
  · have h5' : decide ((d : Int) < 5) = false := by simp; omega
    have HT := hide (part_low (f := f) (d := d) (l := List.drop k s.data.toList) (fun h => absurd h h5) (fun h => absurd h h5))
    go_enter Tryz.func378, Tryz.ntmps378
    go_wp2_with fail
    obtain ⟨W, hW, pW, r0, kW, hB⟩ := one_box s k B w hp.out
    have hA := hide (show At w B s k W from ⟨pW, r0, kW.mono (by simp)⟩)
    rw [hW]
    clear hp hW pW r0 kW
    refine (take_num _ 34 rfl s k B W hs hk hA.out.1).mono ?_
    rintro e w3 ⟨k3, rfl, c1, c2, hr3, hP3, hg3⟩
    have hA3 := hide (hA.out.step (kp_grown hg3) hP3 hB)
    replace hr3 := hide hr3
    clear hA hP3 hg3
    cases hq : (takeC 34 (List.drop k s.data.toList)).1
    · have e3 := takeC_same hq hr3.out hk c2
      subst e3
      have HT2 : Hid (ps (f + 1) 0 d (List.drop k3 s.data.toList) = termP (List.drop k3 s.data.toList)) := by
        show _ = _
        rw [HT.out, hq]; rfl
      clear HT hq
      go_wp2_with fail
      refine (term_any s k3 B _ hs hk hA3.out.1).mono ?_
      rintro e w4 ⟨k4, v, rfl, ⟨kd1, a1, n1, c1', a2', n2, c2', rfl⟩, d1, d2, hr4, hP4, hk4⟩
      have hA4 := hide (hA3.out.step hk4 hP4 hB)
      replace hr4 := hide hr4
      obtain ⟨x0, x1, x2, y0, y1, y2⟩ := bx_cells hA4.out.2.1
      clear hA3 hP4 hk4
      go_wp2_with fail
      refine ret_query rfl (bx_store3 hA4.out.2.1 _ _ _) rfl rfl ?_
      rw [HT2.out]
      exact ⟨k4, _, rfl, ⟨kd1, a1, n1, c1', a2', n2, c2', rfl⟩, by omega, d2, hr4.out, pa_kp hA4.out.1 (kp_store3 _ _ _ _ _) (by simp; omega), hA4.out.2.2.trans (kp_store3 _ _ _ _ _) (fun x hx => by simp at hx; subst hx; exact .inr (Nat.le_refl _))⟩
    · have HT2 : Hid (ps (f + 1) 0 d (List.drop k s.data.toList) = phraseP (s.size - k + 1) (List.drop k3 s.data.toList)) := by
        show _ = _
        rw [HT.out, hq, if_pos rfl, hr3.out, hlen.out]
      have hpos : k + 1 ≤ k3 := Nat.le_of_eq (takeC_pos hq hr3.out hk c2).symm
      clear HT hq
      go_wp2_with fail
      refine (phrase_any s k3 B (s.size - k + 1) _ hs c2 (by omega) hA3.out.1).mono ?_
      rintro e w4 ⟨k4, v, rfl, ⟨kd1, a1, n1, c1', a2', n2, c2', rfl⟩, d1, d2, hr4, hP4, hk4⟩
      have hA4 := hide (hA3.out.step hk4 hP4 hB)
      replace hr4 := hide hr4
      obtain ⟨x0, x1, x2, y0, y1, y2⟩ := bx_cells hA4.out.2.1
      clear hA3 hP4 hk4
      go_wp2_with fail
      refine ret_query rfl (bx_store3 hA4.out.2.1 _ _ _) rfl rfl ?_
      rw [HT2.out]
      exact ⟨k4, _, rfl, ⟨kd1, a1, n1, c1', a2', n2, c2', rfl⟩, by omega, d2, hr4.out, pa_kp hA4.out.1 (kp_store3 _ _ _ _ _) (by simp; omega), hA4.out.2.2.trans (kp_store3 _ _ _ _ _) (fun x hx => by simp at hx; subst hx; exact .inr (Nat.le_refl _))⟩

theorem part_zero (f : Nat) (h : f = 0) : CD 378 0 f := by
  intro s k B d w hs hk hf hd hp; omega

theorem descent : ∀ f, (∀ g, g ≤ f → CD 378 0 g) ∧ (∀ g, g ≤ f → CD 317 1 g) ∧ (∀ g, g ≤ f → CD 225 2 g)
  | 0 => by
    have hP : ∀ g, g ≤ 0 → CD 378 0 g := fun g hg => part_zero g (by omega)
    have hA : ∀ g, g ≤ 0 → CD 317 1 g := fun g hg => all_of g (fun j hj => by omega)
    exact ⟨hP, hA, fun g hg => query_of g (fun j hj => by omega)⟩
  | f + 1 => by
    obtain ⟨hP, hA, hQ⟩ := descent f
    have hP' : ∀ g, g ≤ f + 1 → CD 378 0 g := fun g hg => by
      by_cases e : g = f + 1
      · subst e; exact part_of f (hP f (by omega)) (hQ f (by omega))
      · exact hP g (by omega)
    have hA' : ∀ g, g ≤ f + 1 → CD 317 1 g := fun g hg => all_of g (fun j hj => hP' j (by omega))
    exact ⟨hP', hA', fun g hg => query_of g (fun j hj => hA' j (by omega))⟩
theorem query_any (f : Nat) : CD 225 2 f := (descent f).2.2 f (Nat.le_refl _)
end Go.Proofs.YtpdoacfiiledcaaGreatDoor
