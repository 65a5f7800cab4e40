import Derived.Test.YtnffagpdnklnkaaGreatDoorV32
set_option linter.unusedVariables false
set_option linter.unusedSimpArgs false
set_option maxRecDepth 8000
namespace Go.Proofs.YtnffagpdnklnkaaGreatDoor.Pak
open Go.RowKit Go.Proofs.YtnffagpdnklnkaaGreatDoor Go.Proofs.YtnffagpdnklnkaaGreatDoor.Spl SiftM
theorem info1 : (Tryz.prog.info? 1).map (fun i => (i.zero, i.size, i.bytes)) = some (some .nilFunc, 1, 8) := by kernel_rfl
/-- Function values, and the steps that they are. -/
structure StepsAre (w : World) (lo X : Nat) (vals : List Value) (sts : List Stp) : Prop where
  len : vals.length = sts.length
  each : ∀ (j : Nat) (v : Value) (st : Stp), vals[j]? = some v → sts[j]? = some st → StepIs w lo X v st
theorem StepsAre.kp {S : List Nat} {w w' : World} {lo X : Nat} {vals : List Value} {sts : List Stp} (h : StepsAre w lo X vals sts) (k : Kp S w w') (hS : ∀ g ∈ S, g < lo) : StepsAre w' lo X vals sts :=
  ⟨h.len, fun j v st h1 h2 => (h.each j v st h1 h2).kp k hS⟩
theorem StepsAre.grown {w w' : World} {lo X B n : Nat} {v : Value} {xs vals : List Value} {sts : List Stp} (h : StepsAre w lo X vals sts) (k : Kp v.ownBlock.toList w w') (hv : w.ownsRow B 1 1 v n xs) : StepsAre w' lo X vals sts :=
  ⟨h.len, fun j u st h1 h2 => (h.each j u st h1 h2).grown k hv⟩
theorem StepsAre.nil (w : World) (lo X : Nat) : StepsAre w lo X [] [] := ⟨rfl, fun j v st h => by simp at h⟩
theorem StepsAre.app {w : World} {lo X : Nat} {v1 v2 : List Value} {s1 s2 : List Stp} (h1 : StepsAre w lo X v1 s1) (h2 : StepsAre w lo X v2 s2) : StepsAre w lo X (v1 ++ v2) (s1 ++ s2) := by
  refine ⟨by rw [List.length_append, List.length_append, h1.len, h2.len], fun j v st hv hs => ?_⟩
  by_cases h : j < v1.length
  · rw [List.getElem?_append_left h] at hv
    rw [List.getElem?_append_left (by rw [← h1.len]; exact h)] at hs
    exact h1.each j v st hv hs
  · rw [List.getElem?_append_right (by omega)] at hv
    rw [List.getElem?_append_right (by rw [← h1.len]; omega)] at hs
    rw [h1.len] at hv
    exact h2.each _ v st hv hs
theorem StepsAre.one {w : World} {lo X : Nat} {v : Value} {st : Stp} (h : StepIs w lo X v st) : StepsAre w lo X [v] [st] := by
  refine ⟨rfl, fun j u t hu ht => ?_⟩
  cases j with
  | zero => simp at hu ht; subst hu ht; exact h
  | succ j => simp at hu
/-- The steps for the parts that have no file. -/
def partS (F : List Fl) (Ps : List PPt) : List Stp := (Ps.filter fun t => !decide (segN t.num ∈ nms F)).flatMap fun t => [.wr t, .sy (segN t.num)]
def stepsL (F : List Fl) (n nx : Nat) (Ps : List PPt) : List Stp := partS F Ps ++ [.dr n nx Ps, .sd, .co n] ++ (othersL F (toldN n Ps)).map .de
theorem partS_take (F : List Fl) (Ps : List PPt) (i : Nat) (h : i < Ps.length) : partS F (Ps.take (i + 1)) = partS F (Ps.take i) ++ (if segN (Ps[i]).num ∈ nms F then [] else [.wr Ps[i], .sy (segN (Ps[i]).num)]) := by
  unfold partS
  rw [take_snocL Ps i h, List.filter_append, List.flatMap_append]
  by_cases e : segN (Ps[i]).num ∈ nms F <;> simp [e]
theorem partS_len (F : List Fl) (Ps : List PPt) : (partS F Ps).length ≤ 2 * Ps.length := by
  unfold partS
  have h := List.length_filter_le (fun t => !decide (segN t.num ∈ nms F)) Ps
  have h2 : ∀ l : List PPt, (l.flatMap fun t => ([.wr t, .sy (segN t.num)] : List Stp)).length = 2 * l.length := by
    intro l
    induction l with
    | nil => rfl
    | cons a r ih => simp only [List.flatMap_cons, List.length_append, List.length_cons, List.length_nil, ih]; omega
  rw [h2]
  omega
set_option maxRecDepth 100000 in
set_option maxHeartbeats 8000000 in
theorem steps_any (X B d M n : Nat) (O : List Nat) (F : List Fl) (s : PSt) (w : World) (h : PIs w X B O s) (hfv : s.fv = pt d) (hD : DiskIs w B d M F) (hT : TabP w) (hn : s.Ps.length = n) (hb : n ≤ 1000000) (hl : s.last ≤ 1000000) (hx : s.next ≤ 10000000) (hF : F.length ≤ 2000000) (hnd : (toldN (s.last + 1) s.Ps).Nodup) :
    Calls Tryz.prog 19 #[.pointer (some ⟨X, 0, none⟩)] w fun e w' => ∃ v vals, e = .returned v ∧ w'.ownsRow w.heap.size 1 1 v vals.length vals ∧ StepsAre w' w.heap.size X vals (stepsL F (s.last + 1) s.next s.Ps) ∧ Kp [] w w' := by
  obtain ⟨i0, hi0, hz0, hz1, hz2⟩ := info_parts info1
  obtain ⟨W1, hW1⟩ : ∃ W1, w.alloc (.cells #[.pointer (some ⟨X, 0, none⟩)] 28) = W1 := ⟨_, rfl⟩
  have k1 : Kp [] w W1 := by rw [← hW1]; exact (Kp.refl _ _).alloc _
  have hs1 : W1.heap.size = w.heap.size + 1 := by rw [← hW1]; simp
  have hb1 : bh W1 w.heap.size 28 (pt X) := by unfold bh; rw [← hW1]; exact heap_alloc_new w _
  have hP1 := h.kp k1 (by simp)
  have htold := told_any X B n O s W1 hP1 hn hb hl hx
  obtain ⟨n1, hn1⟩ : ∃ n1, s.last + 1 = n1 := ⟨_, rfl⟩
  rw [hn1] at htold hnd ⊢
  have hn1l : n1 ≤ 1000001 := by omega
  have c1 := bh_bx hb1
  unfold bx pt at c1
  have HP := hide h
  have HD := hide hD
  have HT := hide hT
  have HB1 := hide hb1
  clear h hD hT hP1 hb1
  go_enter Tryz.func19, Tryz.ntmps19
  go_wp2_with (simp only [hW1])
  clear hW1
  refine htold.mono ?_
  rintro e W2 ⟨tv, rfl, htv, k2⟩
  obtain ⟨ta, tc, etv, _⟩ := owns_forms htv
  subst etv
  obtain ⟨W3, hW3⟩ : ∃ W3, W2.alloc (.cells #[.int .i64 (n1 : Int), .int .i64 (s.next : Int), .slice ta n tc] 94) = W3 := ⟨_, rfl⟩
  have k3 : Kp [] W2 W3 := by rw [← hW3]; exact (Kp.refl _ _).alloc _
  have k03 : Kp [] w W3 := (k1.next k2).next k3
  have hz2' := k2.size
  have hs3 : W3.heap.size = W2.heap.size + 1 := by rw [← hW3]; simp
  have hc3 : W3.heap[W2.heap.size]? = some (.cells #[.int .i64 (n1 : Int), .int .i64 (s.next : Int), .slice ta n tc] 94 (0, 0)) := by rw [← hW3]; exact heap_alloc_new W2 _
  have hb3 : bh W3 w.heap.size 28 (pt X) := (k2.next k3).heap HB1.out (by simp)
  have hr3 : W3.ownsRow W1.heap.size 143 3 (.slice ta n tc) n (tsV s.Ps) := k3.owns htv (by simp)
  have hP3 := HP.out.kp k03 (by simp)
  obtain ⟨x0, x6, x7, x8, x9, x10, xf⟩ := px_cells hP3
  obtain ⟨ag, cp, ep, hag⟩ := owns_forms hP3.parts
  rw [hn] at ep hag
  rw [ep] at x8
  have hrow := hP3.parts
  rw [ep, hn] at hrow
  have HRW := hide hrow
  have HB3 := hide hb3
  have HC3 := hide hc3
  have HR3 := hide hr3
  have c3 := bh_bx hb3
  unfold bx pt at c3
  have HN := hide hn
  clear htold htv hrow hb3 hr3 hP3 x0 x6 x7 x9 x10 xf ep hn c1
  go_wp2_with (simp only [hW3])
  clear hW3
  go_loopw [4, 17] (fun lv iv wr => ∃ (i m : Nat) (a : Option Addr) (c : Nat) (vals : List Value), i ≤ n ∧ m = vals.length ∧ iv = .int .i64 (i : Int) ∧ lv = .slice a m c ∧ Hid (wr.ownsRow W3.heap.size 1 1 (.slice a m c) m vals) ∧ Hid (StepsAre wr w.heap.size X vals (partS F (s.Ps.take i))) ∧ Hid (Kp [] W3 wr)) (fun _ iv _ => n - (intOf iv).toNat)
  case atStart => exact ⟨0, 0, none, 0, [], by omega, rfl, rfl, rfl, World.ownsRow_nil _ _ _ _, StepsAre.nil _ _ _, Kp.refl _ _⟩
  case round =>
    obtain ⟨i, m, a, c, vals, hi, hm, rfl, rfl, hO, hSt, hK⟩ := hrel
    have hkw : Kp [] w wr := k03.next hK.out
    have hzr := hK.out.size
    have hpl := partS_len F (s.Ps.take i)
    rw [← hSt.out.len, List.length_take] at hpl
    have hml : m ≤ 2 * n := by omega
    have HM := hide hm
    clear hm hpl
    by_cases hlt : i < n
    · obtain ⟨g, rfl⟩ := hag (by omega)
      have hiL : i < s.Ps.length := by rw [HN.out]; exact hlt
      have hPr := HP.out.kp hkw (by simp)
      have hpc := ptV_cell (hK.out.owns HRW.out (by simp)) i hiL
      have hp0 := hPr.each _ (List.getElem_mem hiL)
      have hta := partS_take F s.Ps i hiL
      obtain ⟨t, ht⟩ : ∃ t, s.Ps[i] = t := ⟨_, rfl⟩
      rw [ht] at hpc hp0 hta
      obtain ⟨W4, hW4⟩ : ∃ W4, wr.alloc (.cells #[.pointer (some ⟨t.p, 0, none⟩)] 76) = W4 := ⟨_, rfl⟩
      have k4 : Kp [] wr W4 := by rw [← hW4]; exact (Kp.refl _ _).alloc _
      have hs4 : W4.heap.size = wr.heap.size + 1 := by rw [← hW4]; simp
      have hb4 : bh W4 wr.heap.size 76 (pt t.p) := by unfold bh; rw [← hW4]; exact heap_alloc_new wr _
      have c4 := bh_bx hb4
      unfold bx pt at c4
      have hp4 := hp0.kp0 k4
      obtain ⟨p0, p1⟩ := part_two hp4
      have hnum := segNum_any t.q t.num t.T.length (termsOf t.T).length (St.refSets (termsOf t.T)).length ((bodyT t.T).length + 4) W4 hp4.seg.segC
      have hnl : t.num ≤ 1000000000000 := by have := hp0.nlt; omega
      have hsn := segN_any t.num W4 (HT.out.kp (hkw.next k4) (by simp)) hnl
      have j1 : (0 : Int) ≤ (i : Int) := by omega
      have j2 : (i : Int) < (n : Int) := by omega
      have HB4 := hide hb4
      have HTA := hide hta
      clear hPr hp0 hp4 hta ht hb4
      go_wp2_with (simp only [hW4])
      clear hW4
      refine hnum.mono ?_
      rintro e w5 ⟨rfl, rfl⟩
      go_wp2_with fail
      refine hsn.mono ?_
      rintro e W5 ⟨rfl, k5⟩
      obtain ⟨nb, hnb⟩ : ∃ nb : ByteArray, nmV (segN t.num) = .string nb := ⟨_, rfl⟩
      rw [hnb]
      obtain ⟨W6, hW6⟩ : ∃ W6, W5.alloc (.cells #[.string nb] 9) = W6 := ⟨_, rfl⟩
      have k6 : Kp [] W5 W6 := by rw [← hW6]; exact (Kp.refl _ _).alloc _
      have hs6 : W6.heap.size = W5.heap.size + 1 := by rw [← hW6]; simp
      have hb6 : bh W6 W5.heap.size 9 (nmV (segN t.num)) := by unfold bh; rw [← hW6, hnb]; exact heap_alloc_new W5 _
      have c6 := bh_bx hb6
      unfold bx at c6
      rw [hnb] at c6
      have k46 := k5.next k6
      have k06 : Kp [] wr W6 := k4.next k46
      have hkw6 : Kp [] w W6 := hkw.next k06
      have hz5 := k5.size
      have c36 := (hK.out.next k06).cellv c3 (by simp)
      have hP6 := HP.out.kp hkw6 (by simp)
      have xd : W6.cell? ⟨X, 2, none⟩ = some (.pointer (some ⟨d, 0, none⟩)) := by simp [World.cell?, hP6.blk, pxC, pxA, hfv, pt]
      have kd6 : Kp [] W6 W6.drew := (Kp.refl _ _).drewN 1
      have hhas := dhas_any B d M F (segN t.num) W6.drew (HD.out.kp (hkw6.next kd6) (by simp) (by simp) (by simp)) (segN_len t.num hnl)
      rw [hnb] at hhas
      have hb46 := k46.heap HB4.out (by simp)
      have HB46 := hide hb46
      have HB6 := hide hb6
      clear hnum hsn hP6 hb6 hb46
      go_wp2_with (simp only [hW6])
      clear hW6
      have hO6 := hide (k06.owns hO.out (by simp))
      have hSt6 := hide (hSt.out.kp k06 (by simp))
      obtain ⟨bv, hbv⟩ : ∃ bv, decide (segN t.num ∈ nms F) = bv := ⟨_, rfl⟩
      rw [hbv] at hhas
      have HBV := hide hbv
      clear hbv hO hSt
      cases bv
      case true =>
        go_region_with (go_at_call 38; refine hhas.mono ?_; rintro e W7 ⟨rfl, k7⟩)
        all_goals
          have hte : segN t.num ∈ nms F := of_decide_eq_true HBV.out
          have k67 : Kp [] W6 W7 := kd6.next k7
          have hO7 := hide (k67.owns hO6.out (by simp))
          have hS7 : Hid (StepsAre W7 w.heap.size X vals (partS F (s.Ps.take (i + 1)))) := by
            show StepsAre _ _ _ _ _
            rw [HTA.out, if_pos hte, List.append_nil]
            exact hSt6.out.kp k67 (by simp)
          have hK7 := hide ((hK.out.next k06).next k67)
          clear hhas
          go_wp2_with fail
          go_roundw
          case rel => exact ⟨i + 1, m, a, c, vals, by omega, HM.out, by go_num, rfl, hO7, hS7, hK7⟩
          case measure => simp [intOf]; omega
      case false =>
        go_region_with (go_at_call 38; refine hhas.mono ?_; rintro e W7 ⟨rfl, k7⟩)
        all_goals
          have hte : segN t.num ∉ nms F := of_decide_eq_false HBV.out
          have k67 : Kp [] W6 W7 := kd6.next k7
          have hO7 := hide (k67.owns hO6.out (by simp))
          have hS7 := hide (hSt6.out.kp k67 (by simp))
          have hK7 := hide ((hK.out.next k06).next k67)
          have hz7 := hK7.out.size
          obtain ⟨f1, hf1⟩ : ∃ f1 : Value, f1 = .func (.func 39) #[] #[.pointer (some ⟨w.heap.size, 0, none⟩), .pointer (some ⟨W5.heap.size, 0, none⟩), .pointer (some ⟨wr.heap.size, 0, none⟩)] := ⟨_, rfl⟩
          obtain ⟨f2, hf2⟩ : ∃ f2 : Value, f2 = .func (.func 42) #[] #[.pointer (some ⟨w.heap.size, 0, none⟩), .pointer (some ⟨W5.heap.size, 0, none⟩)] := ⟨_, rfl⟩
          obtain ⟨W8, hW8⟩ : ∃ W8, W7.alloc (.cells #[.func (.func 39) #[] #[.pointer (some ⟨w.heap.size, 0, none⟩), .pointer (some ⟨W5.heap.size, 0, none⟩), .pointer (some ⟨wr.heap.size, 0, none⟩)], .func (.func 42) #[] #[.pointer (some ⟨w.heap.size, 0, none⟩), .pointer (some ⟨W5.heap.size, 0, none⟩)]] 1) = W8 := ⟨_, rfl⟩
          have k8 : Kp [] W7 W8 := by rw [← hW8]; exact (Kp.refl _ _).alloc _
          have hs8 : W8.heap.size = W7.heap.size + 1 := by rw [← hW8]; simp
          have hn8 : W8.heap[W7.heap.size]? = some (.cells #[.func (.func 39) #[] #[.pointer (some ⟨w.heap.size, 0, none⟩), .pointer (some ⟨W5.heap.size, 0, none⟩), .pointer (some ⟨wr.heap.size, 0, none⟩)], .func (.func 42) #[] #[.pointer (some ⟨w.heap.size, 0, none⟩), .pointer (some ⟨W5.heap.size, 0, none⟩)]] 1 (0, 0)) := by rw [← hW8]; exact heap_alloc_new W7 _
          have hnews := World.news_of_block hn8
          have hO8 := k8.owns hO7.out (by simp)
          have k68 := k67.next k8
          have hst1 : StepIs W8 w.heap.size X f1 (.wr t) := ⟨w.heap.size, W5.heap.size, wr.heap.size, hf1, Nat.le_refl _, by omega, by omega, ((hK.out.next k06).next k68).heap HB3.out (by simp), k68.heap HB6.out (by simp), (k6.next k68).heap (k5.heap HB4.out (by simp)) (by simp)⟩
          have hst2 : StepIs W8 w.heap.size X f2 (.sy (segN t.num)) := ⟨w.heap.size, W5.heap.size, hf2, Nat.le_refl _, by omega, ((hK.out.next k06).next k68).heap HB3.out (by simp), k68.heap HB6.out (by simp), segN_len t.num hnl⟩
          have hS8 : StepsAre W8 w.heap.size X (vals ++ [f1, f2]) (partS F (s.Ps.take (i + 1))) := by
            rw [HTA.out, if_neg hte]
            exact (hS7.out.kp k8 (by simp)).app (StepsAre.app (StepsAre.one hst1) (StepsAre.one hst2))
          have HS8 := hide hS8
          have hK8 := hK7.out.next k8
          clear hhas hst1 hst2 hS8
          go_wp2_with (first
            | simp only [hW8]
            | (at_builtin; (refine wpList_append_own_at _ rfl _ _ 74 rfl W3.heap.size 1 i0 .nilFunc 1 8 Tryz.underlying74 hi0 hz0 hz1 hz2 rfl (by decide) _ _ _ rfl hO8 ⟨W7.heap.size, 0, none⟩ 2 2 _ rfl rfl hnews (by simp [Value.oneCell']) (by unfold maxLen; omega) (by omega) (by omega) ?_; intro u' W9 hown9 hgrow _ hblk; obtain ⟨ua', uc', eu', _⟩ := owns_forms hown9; subst eu')))
          go_roundw
          case rel =>
            have kg := grown_kp hgrow
            refine ⟨i + 1, m + 2, ua', uc', vals ++ [f1, f2], by omega, by rw [List.length_append, ← HM.out]; rfl, by go_num, rfl, ?_, HS8.out.grown kg hO8, hK8.trans kg (fun x hx => .inr (hO8.lt x (Option.mem_toList.1 hx)).1)⟩
            show World.ownsRow _ _ _ _ _ _ _
            rw [hf1, hf2]
            exact hown9
          case measure => simp [intOf]; omega
    · have hin : i = n := by omega
      subst hin
      have htk : s.Ps.take i = s.Ps := List.take_of_length_le (by rw [HN.out]; exact Nat.le_refl _)
      have hSt0 := hSt.out
      rw [htk] at hSt0
      obtain ⟨g1, hg1⟩ : ∃ g1 : Value, g1 = .func (.func 44) #[] #[.pointer (some ⟨w.heap.size, 0, none⟩), .pointer (some ⟨W2.heap.size, 0, none⟩)] := ⟨_, rfl⟩
      obtain ⟨g2, hg2⟩ : ∃ g2 : Value, g2 = .func (.func 46) #[] #[.pointer (some ⟨w.heap.size, 0, none⟩)] := ⟨_, rfl⟩
      obtain ⟨g3, hg3⟩ : ∃ g3 : Value, g3 = .func (.func 47) #[] #[.pointer (some ⟨w.heap.size, 0, none⟩), .pointer (some ⟨W2.heap.size, 0, none⟩)] := ⟨_, rfl⟩
      obtain ⟨W4, hW4⟩ : ∃ W4, wr.alloc (.cells #[.func (.func 44) #[] #[.pointer (some ⟨w.heap.size, 0, none⟩), .pointer (some ⟨W2.heap.size, 0, none⟩)], .func (.func 46) #[] #[.pointer (some ⟨w.heap.size, 0, none⟩)], .func (.func 47) #[] #[.pointer (some ⟨w.heap.size, 0, none⟩), .pointer (some ⟨W2.heap.size, 0, none⟩)]] 1) = W4 := ⟨_, rfl⟩
      have k4 : Kp [] wr W4 := by rw [← hW4]; exact (Kp.refl _ _).alloc _
      have hs4 : W4.heap.size = wr.heap.size + 1 := by rw [← hW4]; simp
      have hn4 : W4.heap[wr.heap.size]? = some (.cells #[.func (.func 44) #[] #[.pointer (some ⟨w.heap.size, 0, none⟩), .pointer (some ⟨W2.heap.size, 0, none⟩)], .func (.func 46) #[] #[.pointer (some ⟨w.heap.size, 0, none⟩)], .func (.func 47) #[] #[.pointer (some ⟨w.heap.size, 0, none⟩), .pointer (some ⟨W2.heap.size, 0, none⟩)]] 1 (0, 0)) := by rw [← hW4]; exact heap_alloc_new wr _
      have hnews := World.news_of_block hn4
      have hO4 := k4.owns hO.out (by simp)
      have hK4 := hK.out.next k4
      have hkw4 : Kp [] w W4 := hkw.next k4
      have hr4 : W4.ownsRow w.heap.size 143 3 (.slice ta i tc) s.Ps.length (tsV s.Ps) := by
        rw [HN.out]
        exact ownsRow_base_a (hK4.owns HR3.out (by simp)) (by omega)
      have hst1 : StepIs W4 w.heap.size X g1 (.dr n1 s.next s.Ps) := ⟨w.heap.size, W2.heap.size, _, hg1, Nat.le_refl _, by omega, hK4.heap HB3.out (by simp), hK4.heap HC3.out (by simp), hr4⟩
      have hst2 : StepIs W4 w.heap.size X g2 .sd := ⟨w.heap.size, hg2, Nat.le_refl _, hK4.heap HB3.out (by simp)⟩
      have hst3 : StepIs W4 w.heap.size X g3 (.co n1) := ⟨w.heap.size, W2.heap.size, _, _, hg3, Nat.le_refl _, by omega, hK4.heap HB3.out (by simp), hK4.heap HC3.out (by simp)⟩
      have hS4 : StepsAre W4 w.heap.size X (vals ++ [g1, g2, g3]) (partS F s.Ps ++ [.dr n1 s.next s.Ps, .sd, .co n1]) :=
        (hSt0.kp k4 (by simp)).app (StepsAre.app (StepsAre.one hst1) (StepsAre.app (StepsAre.one hst2) (StepsAre.one hst3)))
      have HS4 := hide hS4
      clear hSt0 hst1 hst2 hst3 hS4 hr4
      go_wp2_with (first
        | simp only [hW4]
        | (at_builtin; (refine wpList_append_own_at _ rfl _ _ 74 rfl W3.heap.size 1 i0 .nilFunc 1 8 Tryz.underlying74 hi0 hz0 hz1 hz2 rfl (by decide) _ _ _ rfl hO4 ⟨wr.heap.size, 0, none⟩ 3 3 _ rfl rfl hnews (by simp [Value.oneCell']) (by unfold maxLen; omega) (by omega) (by omega) ?_; intro u' W5 hown5 hgrow _ hblk; obtain ⟨ua, uc, eu', _⟩ := owns_forms hown5; subst eu')))
      have kg := grown_kp hgrow
      have hK5 : Kp [] W3 W5 := hK4.trans kg (fun x hx => .inr (hO4.lt x (Option.mem_toList.1 hx)).1)
      have hkw5 : Kp [] w W5 := k03.next hK5
      have HS5 := hide (HS4.out.grown kg hO4)
      have HO5 : Hid (W5.ownsRow W3.heap.size 1 1 (.slice ua (m + 3) uc) (m + 3) (vals ++ [g1, g2, g3])) := by
        show World.ownsRow _ _ _ _ _ _ _
        rw [hg1, hg2, hg3]
        exact hown5
      have hm3 : Hid (m + 3 = (vals ++ [g1, g2, g3]).length) := by
        show _ = _
        rw [List.length_append, ← HM.out]
        rfl
      obtain ⟨vals3, hv3⟩ : ∃ vals3, vals ++ [g1, g2, g3] = vals3 := ⟨_, rfl⟩
      rw [hv3] at HS5 HO5 hm3
      have hP5 := HP.out.kp hkw5 (by simp)
      have x25 : W5.cell? ⟨X, 2, none⟩ = some (.pointer (some ⟨d, 0, none⟩)) := by simp [World.cell?, hP5.blk, pxC, pxA, hfv, pt]
      have hc5 := hK5.heap HC3.out (by simp)
      have c35 := hK5.cellv c3 (by simp)
      obtain ⟨q0, q1, q2⟩ : W5.cell? ⟨W2.heap.size, 0, none⟩ = some (.int .i64 (n1 : Int)) ∧ W5.cell? ⟨W2.heap.size, 1, none⟩ = some (.int .i64 (s.next : Int)) ∧ W5.cell? ⟨W2.heap.size, 2, none⟩ = some (.slice ta i tc) := by refine ⟨?_, ?_, ?_⟩ <;> simp [World.cell?, hc5]
      have kd5 : Kp [] W5 W5.drew := (Kp.refl _ _).drewN 1
      have hnm := cnames_any W1.heap.size n1 s.next i (.slice ta i tc) s.Ps W5.drew ((hK5.next kd5).owns HR3.out (by simp)) HN.out (by omega) hb (fun t ht => by have := (hP5.each t ht).nlt; omega) (HT.out.kp (hkw5.next kd5) (by simp))
      have hz5 := hK5.size
      clear hW4 hn4 hnews hO4 hK4 hkw4 k4 hs4 hown5 hgrow hblk kg HS4 hg1 hg2 hg3 hv3 hP5 hc5 htk
      have mixed : Tryz.prog.follows .mixedOrders = true := by kernel_rfl
      refine region_E mixed (fun w' => w'.cell? ⟨w.heap.size, 0, none⟩ = some (.pointer (some ⟨X, 0, none⟩)) ∧ w'.cell? ⟨X, 2, none⟩ = some (.pointer (some ⟨d, 0, none⟩)) ∧ w'.cell? ⟨W2.heap.size, 0, none⟩ = some (.int .i64 (n1 : Int)) ∧ w'.cell? ⟨W2.heap.size, 1, none⟩ = some (.int .i64 (s.next : Int)) ∧ w'.cell? ⟨W2.heap.size, 2, none⟩ = some (.slice ta i tc)) 99 ?_
      have hS0 : W5.drew.cell? ⟨w.heap.size, 0, none⟩ = some (.pointer (some ⟨X, 0, none⟩)) ∧ W5.drew.cell? ⟨X, 2, none⟩ = some (.pointer (some ⟨d, 0, none⟩)) ∧ W5.drew.cell? ⟨W2.heap.size, 0, none⟩ = some (.int .i64 (n1 : Int)) ∧ W5.drew.cell? ⟨W2.heap.size, 1, none⟩ = some (.int .i64 (s.next : Int)) ∧ W5.drew.cell? ⟨W2.heap.size, 2, none⟩ = some (.slice ta i tc) := ⟨c35, x25, q0, q1, q2⟩
      refine anyE_tk 0 46 (.pointer (some ⟨X, 0, none⟩)) rfl (Or.inl ⟨by rfl, fun w' hS => by obtain ⟨s1, s2, s3, s4, s5⟩ := hS; go_simp⟩) hS0 ?_
      try simp only [Act.put, List.setIfInBounds_toArray, List.set_cons_zero, List.set_cons_succ]
      refine anyE_tk 1 47 (.pointer (some ⟨X, 0, none⟩)) rfl (Or.inl ⟨by rfl, fun w' hS => by obtain ⟨s1, s2, s3, s4, s5⟩ := hS; go_simp⟩) hS0 ?_
      try simp only [Act.put, List.setIfInBounds_toArray, List.set_cons_zero, List.set_cons_succ]
      refine anyE_tk 2 48 (.pointer (some ⟨X, 2, none⟩)) rfl (Or.inl ⟨by rfl, fun w' hS => by obtain ⟨s1, s2, s3, s4, s5⟩ := hS; go_simp⟩) hS0 ?_
      try simp only [Act.put, List.setIfInBounds_toArray, List.set_cons_zero, List.set_cons_succ]
      refine anyE_tk 3 49 (.pointer (some ⟨d, 0, none⟩)) rfl (Or.inl ⟨by rfl, fun w' hS => by obtain ⟨s1, s2, s3, s4, s5⟩ := hS; go_simp⟩) hS0 ?_
      try simp only [Act.put, List.setIfInBounds_toArray, List.set_cons_zero, List.set_cons_succ]
      refine anyE_tk 4 50 (.agg #[.int .i64 (n1 : Int), .int .i64 (s.next : Int), .slice ta i tc]) rfl (Or.inl ⟨by rfl, fun w' hS => by obtain ⟨s1, s2, s3, s4, s5⟩ := hS; go_simp⟩) hS0 ?_
      try simp only [Act.put, List.setIfInBounds_toArray, List.set_cons_zero, List.set_cons_succ]
      refine anyE_tk 8 54 (.int .i64 0) rfl (Or.inl ⟨by rfl, fun w' hS => by obtain ⟨s1, s2, s3, s4, s5⟩ := hS; go_simp⟩) hS0 ?_
      try simp only [Act.put, List.setIfInBounds_toArray, List.set_cons_zero, List.set_cons_succ]
      refine anyE_call (i := 5) (o := { dst := some 51, op := _, type := _, pos := _, after := _, guard := _ }) (by kernel_rfl) rfl rfl (by go_simp) hnm ?_
      rintro e W6 ⟨nv, rfl, hnv, k6⟩
      have k56 := kd5.next k6
      have hS1 : W6.cell? ⟨w.heap.size, 0, none⟩ = some (.pointer (some ⟨X, 0, none⟩)) ∧ W6.cell? ⟨X, 2, none⟩ = some (.pointer (some ⟨d, 0, none⟩)) ∧ W6.cell? ⟨W2.heap.size, 0, none⟩ = some (.int .i64 (n1 : Int)) ∧ W6.cell? ⟨W2.heap.size, 1, none⟩ = some (.int .i64 (s.next : Int)) ∧ W6.cell? ⟨W2.heap.size, 2, none⟩ = some (.slice ta i tc) := ⟨k56.cellv c35 (by simp), k56.cellv x25 (by simp), k56.cellv q0 (by simp), k56.cellv q1 (by simp), k56.cellv q2 (by simp)⟩
      refine ⟨_, rfl, .inr hS1, ?_⟩
      try simp only [Act.put, List.setIfInBounds_toArray, List.set_cons_zero, List.set_cons_succ]
      have hkw6 := hkw5.next k56
      have hz6 := k56.size
      have htl : (toldN n1 s.Ps).length = i + 1 := by unfold toldN; rw [List.length_cons, List.length_map, HN.out]
      have hBw : B ≤ w.heap.size := HP.out.low
      have hot := others_any B d M F (toldN n1 s.Ps) nv W6 (HD.out.kp hkw6 (by simp) (by simp) (by simp)) (by have := hkw6.size; omega) (by rw [htl]; exact ownsRow_base_a hnv (by have := hkw5.size; have e : W5.drew.heap.size = W5.heap.size := rfl; omega)) (by omega) (by omega) hnd hF
      refine anyE_call (i := 6) (o := { dst := some 52, op := _, type := _, pos := _, after := _, guard := _ }) (by kernel_rfl) rfl rfl (by go_simp) hot ?_
      rintro e W7 ⟨ov, rfl, hov, k7⟩
      have k57 := k56.next k7
      have hS2 : W7.cell? ⟨w.heap.size, 0, none⟩ = some (.pointer (some ⟨X, 0, none⟩)) ∧ W7.cell? ⟨X, 2, none⟩ = some (.pointer (some ⟨d, 0, none⟩)) ∧ W7.cell? ⟨W2.heap.size, 0, none⟩ = some (.int .i64 (n1 : Int)) ∧ W7.cell? ⟨W2.heap.size, 1, none⟩ = some (.int .i64 (s.next : Int)) ∧ W7.cell? ⟨W2.heap.size, 2, none⟩ = some (.slice ta i tc) := ⟨k57.cellv c35 (by simp), k57.cellv x25 (by simp), k57.cellv q0 (by simp), k57.cellv q1 (by simp), k57.cellv q2 (by simp)⟩
      refine ⟨_, rfl, .inr hS2, ?_⟩
      try simp only [Act.put, List.setIfInBounds_toArray, List.set_cons_zero, List.set_cons_succ]
      obtain ⟨oa, oc, eov, hoa⟩ := owns_forms hov
      subst eov
      obtain ⟨no, hno⟩ : ∃ no, (othersL F (toldN n1 s.Ps)).length = no := ⟨_, rfl⟩
      rw [hno] at hov hoa
      rw [hno]
      refine anyE_ran (i := 7) (o := { dst := some 53, op := _, type := _, pos := _, after := _, guard := _ }) (v := .int .i64 (no : Int)) (w' := W7) (by kernel_rfl) rfl rfl (by go_simp) (.inr hS2) ?_
      try simp only [Act.put, List.setIfInBounds_toArray, List.set_cons_zero, List.set_cons_succ]
      refine anyE_done (by kernel_rfl) ?_ _
      have hK7 : Kp [] W3 W7 := hK5.next k57
      have HO7 := hide (k57.owns HO5.out (by simp))
      have HS7 := hide (HS5.out.kp k57 (by simp))
      have HOV := hide hov
      have HNO := hide hno
      have HB7 := hide (hK7.heap HB3.out (by simp))
      have hnoF : no ≤ F.length := by
        rw [← hno]
        unfold othersL
        have h1 := List.length_filter_le (fun x => !decide (x ∈ toldN n1 s.Ps)) (sortN (nms F))
        have h2 : (sortN (nms F)).length = F.length := by rw [sortN_len]; simp [nms]
        omega
      have hshort : ∀ x ∈ othersL F (toldN n1 s.Ps), x.length ≤ 100 := fun x hx => by
        unfold othersL at hx
        have := (List.mem_filter.1 hx).1
        exact HD.out.map.short x ((sortN_mem _ x).1 this)
      have HSH := hide hshort
      obtain ⟨OL, hOL⟩ : ∃ OL, othersL F (toldN n1 s.Ps) = OL := ⟨_, rfl⟩
      have hgoal : stepsL F n1 s.next s.Ps = (partS F s.Ps ++ [.dr n1 s.next s.Ps, .sd, .co n1]) ++ OL.map .de := by rw [← hOL]; rfl
      rw [hOL] at HOV HNO HSH
      obtain ⟨S0, hS0'⟩ : ∃ S0, (partS F s.Ps ++ [.dr n1 s.next s.Ps, .sd, .co n1]) = S0 := ⟨_, rfl⟩
      rw [hS0'] at HS7 hgoal
      have HG := hide hgoal
      clear hnm hot hnv hov hS0 hS1 hS2 hno hshort hOL hgoal hS0' q0 q1 q2 c35 x25 HS5 HO5
      go_wp2_with fail
      go_loopw [4, 54] (fun lv jv wj => ∃ (j l : Nat) (a : Option Addr) (c : Nat) (vals : List Value), j ≤ no ∧ l ≤ 2 * i + 3 + j ∧ jv = .int .i64 (j : Int) ∧ lv = .slice a l c ∧ Hid (l = vals.length) ∧ Hid (wj.ownsRow W3.heap.size 1 1 (.slice a l c) l vals) ∧ Hid (StepsAre wj w.heap.size X vals (S0 ++ (OL.take j).map .de)) ∧ Hid (Kp [] W3 wj) ∧ Hid (wj.ownsRow W6.heap.size 9 1 (.slice oa no oc) no (nmL OL))) (fun _ jv _ => no - (intOf jv).toNat)
      case atStart => exact ⟨0, m + 3, ua, uc, vals3, by omega, by omega, rfl, rfl, hm3, HO7, by show StepsAre _ _ _ _ _; simpa using HS7.out, hK7, HOV⟩
      case round =>
        clear hO hSt hK hkw HM HO7 HS7 hm3
        obtain ⟨j, l, a, c, vals, hj, hl2, rfl, rfl, hm, hO, hSt, hK, hV⟩ := hrel
        have hzr2 := hK.out.size
        have hz7 := hK7.size
        by_cases hlt2 : j < no
        · obtain ⟨go, rfl⟩ := hoa (by omega)
          have hjL : j < OL.length := by rw [HNO.out]; exact hlt2
          have hcell := (hV.out.cellAt j (by omega))
          rw [show (nmL OL)[j]? = some (nmV OL[j]) by simp [nmL, hjL]] at hcell
          have hsh := HSH.out _ (List.getElem_mem hjL)
          have htk2 : S0 ++ (OL.take (j + 1)).map Stp.de = (S0 ++ (OL.take j).map Stp.de) ++ [.de OL[j]] := by
            rw [take_snocL OL j hjL, List.map_append, List.append_assoc]
            rfl
          obtain ⟨y, hy⟩ : ∃ y, OL[j] = y := ⟨_, rfl⟩
          rw [hy] at hcell hsh htk2
          obtain ⟨yb, hyb⟩ : ∃ yb : ByteArray, nmV y = .string yb := ⟨_, rfl⟩
          rw [hyb] at hcell
          obtain ⟨W8, hW8⟩ : ∃ W8, wr.alloc (.cells #[.string yb] 9) = W8 := ⟨_, rfl⟩
          have k8 : Kp [] wr W8 := by rw [← hW8]; exact (Kp.refl _ _).alloc _
          have hs8 : W8.heap.size = wr.heap.size + 1 := by rw [← hW8]; simp
          have hb8 : bh W8 wr.heap.size 9 (nmV y) := by unfold bh; rw [← hW8, hyb]; exact heap_alloc_new wr _
          obtain ⟨W9, hW9⟩ : ∃ W9, W8.alloc (.cells #[.func (.func 51) #[] #[.pointer (some ⟨w.heap.size, 0, none⟩), .pointer (some ⟨wr.heap.size, 0, none⟩)]] 1) = W9 := ⟨_, rfl⟩
          have k9 : Kp [] W8 W9 := by rw [← hW9]; exact (Kp.refl _ _).alloc _
          have hs9 : W9.heap.size = W8.heap.size + 1 := by rw [← hW9]; simp
          have hn9 : W9.heap[W8.heap.size]? = some (.cells #[.func (.func 51) #[] #[.pointer (some ⟨w.heap.size, 0, none⟩), .pointer (some ⟨wr.heap.size, 0, none⟩)]] 1 (0, 0)) := by rw [← hW9]; exact heap_alloc_new W8 _
          rw [hs8] at hn9
          have hnews := World.news_of_block hn9
          have k89 := k8.next k9
          have hO9 := k89.owns hO.out (by simp)
          obtain ⟨f1, hf1⟩ : ∃ f1 : Value, f1 = .func (.func 51) #[] #[.pointer (some ⟨w.heap.size, 0, none⟩), .pointer (some ⟨wr.heap.size, 0, none⟩)] := ⟨_, rfl⟩
          have hst1 : StepIs W9 w.heap.size X f1 (.de y) := ⟨w.heap.size, wr.heap.size, hf1, Nat.le_refl _, by omega, (hK.out.next k89).heap HB3.out (by simp), k9.heap hb8 (by simp), hsh⟩
          have HS9 : Hid (StepsAre W9 w.heap.size X (vals ++ [f1]) (S0 ++ (OL.take (j + 1)).map .de)) := by
            show StepsAre _ _ _ _ _
            rw [htk2]
            exact (hSt.out.kp k89 (by simp)).app (StepsAre.one hst1)
          have hK9 := hK.out.next k89
          have j1 : (0 : Int) ≤ (j : Int) := by omega
          have j2 : (j : Int) < (no : Int) := by omega
          clear hst1 htk2 hsh hy hb8
          go_wp2_with (first
            | simp only [hW8]
            | simp only [hW9]
            | (at_builtin; (refine wpList_append_own_at _ rfl _ _ 74 rfl W3.heap.size 1 i0 .nilFunc 1 8 Tryz.underlying74 hi0 hz0 hz1 hz2 rfl (by decide) _ _ _ rfl hO9 ⟨wr.heap.size + 1, 0, none⟩ 1 1 _ rfl rfl hnews (by simp [Value.oneCell']) (by unfold maxLen; omega) (by omega) (by omega) ?_; intro u' W10 hown10 hgrow _ hblk; obtain ⟨ua', uc', eu', _⟩ := owns_forms hown10; subst eu')))
          go_roundw
          case rel =>
            have kg := grown_kp hgrow
            refine ⟨j + 1, l + 1, ua', uc', vals ++ [f1], by omega, by omega, by go_num, rfl, ?_, ?_, HS9.out.grown kg hO9, hK9.trans kg (fun x hx => .inr (hO9.lt x (Option.mem_toList.1 hx)).1), ?_⟩
            · show _ = _
              rw [List.length_append, ← hm.out]
              rfl
            · show World.ownsRow _ _ _ _ _ _ _
              rw [hf1]
              exact hown10
            · exact kg.owns (k89.owns hV.out (by simp)) (fun g hg hx => owns_disj hO9 (k89.owns hV.out (by simp)) (by decide) g (Option.mem_toList.1 hx) hg)
          case measure => simp [intOf]; omega
        · have hjn : j = no := by omega
          subst hjn
          have hend := hSt.out
          rw [List.take_of_length_le (by rw [HNO.out]; exact Nat.le_refl _), ← HG.out] at hend
          have hOe := hO.out
          rw [hm.out] at hOe
          go_wp2_with fail
          go_ret
          refine ⟨_, vals, rfl, ?_, hend, k03.next hK.out⟩
          rw [hm.out]
          exact ownsRow_base_a hOe (by omega)
end Go.Proofs.YtnffagpdnklnkaaGreatDoor.Pak
