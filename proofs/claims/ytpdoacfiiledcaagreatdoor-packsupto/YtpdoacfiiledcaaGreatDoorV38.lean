import Derived.Test.YtpdoacfiiledcaaGreatDoorV37
import Derived.Test.YtpdoacfiiledcaaGreatDoorV36

set_option linter.unusedVariables false
namespace Go.Proofs.YtpdoacfiiledcaaGreatDoor.Own
open Go.RowKit Go.Proofs.YtpdoacfiiledcaaGreatDoor
open Go.Proofs.YtpdoacfiiledcaaGreatDoor.Spl Go.Proofs.YtpdoacfiiledcaaGreatDoor.Pak

theorem file_inj {T T' : List Tx} (h : Fine T) (h' : Fine T') (e : fileT T = fileT T') : T = T' := by
  have := guess_file T h
  rw [e, guess_file T' h'] at this
  exact (Option.some.inj this).symm
theorem vw_wide {w : World} {g : Nat} {l : List UInt8} (hh : w.heap[g]? = some (.cells (wideL l 8).toArray 5 (0, 0))) : Vw w w.heap.size (some ⟨g, 0, none⟩) l :=
  .inr ⟨g, 0, rfl, lt_of_heap hh, fun j hj => by
    rw [Nat.zero_add, cell_of_row w g j _ 5 (0, 0) hh]
    simp only [List.getElem?_toArray]
    exact wideL_at l j hj⟩
theorem vw_bytes (w : World) (s : ByteArray) : Vw (Lib.bytesWorld w 5 s) (Lib.bytesWorld w 5 s).heap.size (some ⟨w.heap.size, 0, none⟩) s.data.toList :=
  .inr ⟨w.heap.size, 0, rfl, by rw [Lib.bytesWorld_size]; omega, fun j hj => by
    have hj' : j < s.size := by simpa using hj
    rw [Nat.zero_add, bw_cell w 5 s j hj']; rfl⟩
theorem texts_kp {w w' : World} {S : List Nat} {base : Nat} {v : Value} {T : List Tx} {vs : List Value} (h : TextsIs w base v T vs) (k : Kp S w w') (hS : ∀ x ∈ S, x < base) : TextsIs w' base v T vs :=
  ⟨h.len, k.owns h.row (fun g hg hx => by have := (h.row.lt g hg).1; have := hS g hx; omega), fun i h1 h2 => k.owns (h.each i h1 h2) (fun g hg hx => by have := ((h.each i h1 h2).lt g hg).1; have := hS g hx; omega), h.apart⟩
theorem fb2 {A t C : Nat} (h : (A + 60 + 1) * 104 ≤ C) (ht : t ≤ 60) : (A + t + 1) * 104 ≤ C := Nat.le_trans (Nat.mul_le_mul_right 104 (Nat.succ_le_succ (Nat.add_le_add_left ht A))) h
/-- The two answers of Read, side by side. -/
structure Both (w : World) (b1 b2 : Nat) (v1 v2 : Value) (er : Int) (T : List Tx) (vs1 vs2 : List Value) : Prop where
  len : T.length ≤ 60
  few : ∀ t ∈ T, t.2.length ≤ 900
  one : TextsIs w b1 v1 T vs1
  two : TxAt w b2 v2 T vs2
  err : er = 0 ∨ v1 = .slice none 0 0

set_option maxHeartbeats 2000000 in
set_option maxRecDepth 100000 in
theorem free4_any (B P : Nat) (L : Ls) (a b c d : Int) (s : ByteArray) (lv nm fl : Value) (w : World) (hI : Inv w P L) (hT : Tab B w) (hB : B ≤ P) (hs : s.size ≤ 2000000)
    (hF2 : (L.F2.length + 60 + 1) * 104 ≤ 140737488355328) (hF5 : (L.F5.length + 1) * 104 ≤ 140737488355328) :
    Calls Tryz.prog 42 #[.pointer (some ⟨P, 0, none⟩), opA 4 a b c d s lv nm fl] w fun e w' => e = .returned (.bool true) ∧ (∃ L', Inv w' P L' ∧ L'.F1 = L.F1 ∧ L'.F3 = L.F3 ∧ L'.F4 = L.F4 ∧ L'.pv = L.pv ∧ L'.F2.length ≤ L.F2.length + 60 ∧ L'.F5.length = L.F5.length + 1) ∧ Below P w w' := by
  unfold opA
  have hPlt := lt_of_heap hI.hP
  have hls : s.data.toList.length = s.size := by simp
  obtain ⟨W, hW⟩ : ∃ W, w.alloc (.cells #[.int .i64 4, .int .i64 a, .int .i64 b, .int .i64 c, .int .i64 d, .string s, lv, nm, fl] 69) = W := ⟨_, rfl⟩
  have hbx : W.heap[w.heap.size]? = some (.cells #[.int .i64 4, .int .i64 a, .int .i64 b, .int .i64 c, .int .i64 d, .string s, lv, nm, fl] 69 (0, 0)) := by rw [← hW]; exact heap_alloc_new w _
  have kW : Kp [] w W := by rw [← hW]; exact (Pak.Kp.refl [] w).alloc _
  have hzW : w.heap.size < W.heap.size := lt_of_heap hbx
  have HC5 : ∀ {w' : World} {S : List Nat}, Kp S W w' → w.heap.size ∉ S → w'.cell? ⟨w.heap.size, 5, none⟩ = some (.string s) := fun {w' S} hk hS => hk.cellv (p := ⟨w.heap.size, 5, none⟩) (by rw [cell_of_row W w.heap.size 5 _ 69 (0, 0) hbx]; rfl) hS
  have HI := hide hI
  have HT := hide hT
  have HKW := hide kW
  have HW := hide hW
  have HLS := hide hls
  clear hI hT kW hW hls hbx
  go_enter Tryz.func42, Tryz.ntmps42
  go_wp2_with fail
  rw [HW.out]
  refine (wide_any s W hs).mono ?_
  rintro e w1 ⟨rfl, hg1, k1⟩
  have hz1 := k1.size
  have hgl : W.heap.size < w1.heap.size := lt_of_heap hg1
  have HS := hide (sread_any (some ⟨W.heap.size, 0, none⟩) (s.size + 8) s.data.toList w1 (vw_wide hg1) (by rw [HLS.out]; exact hs) (by rw [HLS.out]; omega) (by omega))
  have HG1 := hide hg1
  have HK1 := hide k1
  have hS' := HS.out
  rw [HLS.out] at hS'
  replace hS' := hide hS'
  clear hg1 k1 HS
  go_wp2_with fail
  refine hS'.out.mono ?_
  rintro e w2 ⟨k2, hr2⟩
  obtain ⟨v1, er1, he1⟩ : ∃ v1 er1, e = .returned (.tuple #[v1, .int .i64 er1]) := by
    rcases hr2 with ⟨T, v, vs, _, _, e1, _⟩ | ⟨_, e1⟩
    · exact ⟨_, _, e1⟩
    · exact ⟨_, _, e1⟩
  subst he1
  have hz2 := k2.size
  have kW2 : Kp [] W w2 := HK1.out.next k2
  have cc2 := HC5 kW2 (by simp)
  have HST := hide (still_lent s W.heap.size w2 hs (k2.heap HG1.out (by simp)))
  obtain ⟨a1, n1, c1, hv1⟩ : ∃ a1 n1 c1, v1 = .slice a1 n1 c1 := by
    rcases hr2 with ⟨T, v, vs, _, _, e1, ht⟩ | ⟨_, e1⟩
    · simp at e1
      obtain ⟨a', c', hv, _⟩ := owns_forms ht.row
      exact ⟨_, _, _, e1.1.trans hv⟩
    · simp at e1
      exact ⟨_, _, _, e1.1⟩
  subst hv1
  have HR2 := hide hr2
  have HK2 := hide k2
  clear hr2 k2 hS' HG1
  go_wp2_with fail
  refine HST.out.mono ?_
  rintro e w3 ⟨rfl, k3⟩
  have hz3 := k3.size
  have kW3 : Kp [W.heap.size] W w3 := (kW2.mono (by simp)).next k3
  have cc3 := HC5 kW3 (by simp; omega)
  have hcb := conv_bytes s w3
  have hb4 := bw_below w3 5 s
  have hz4 := hb4.size
  have HRR := hide (rread_any s.size (grownCap w3 s.size 0 5) (some ⟨w3.heap.size, 0, none⟩) s.data.toList (Lib.bytesWorld w3 5 s) (vw_bytes w3 s) HLS.out (by omega) (grownCap_ge w3 s.size 0 5))
  have HB4 := hide hb4
  have HK3 := hide k3
  clear hb4 k3 HST cc2
  go_wp2_with fail
  refine HRR.out.mono ?_
  rintro e w5 hr5
  have k5 := hr5.1
  have hz5 := k5.size
  have kb : Kp [] w3 (Lib.bytesWorld w3 5 s) := Pak.Kp.of_below _ HB4.out
  have HE : ∃ (a2 : Option Addr) (n2 c2 : Nat) (T : List Tx) (vs1 vs2 : List Value), e = .returned (.tuple #[.slice a2 n2 c2, .int .i64 er1]) ∧ Both w5 w1.heap.size (Lib.bytesWorld w3 5 s).heap.size (.slice a1 n1 c1) (.slice a2 n2 c2) er1 T vs1 vs2 := by
    rcases HR2.out with ⟨T, v, vs, hf, hl, e1, ht⟩ | ⟨hno, e1⟩
    · simp at e1
      obtain ⟨rfl, rfl⟩ := e1
      rcases hr5.2 with ⟨T', a2, c2, n2, vs2, hf', hl', hn', hv', e2, ho, heach⟩ | ⟨hno', _⟩
      · have eT : T = T' := file_inj hf hf' (hl.symm.trans hl')
        subst eT
        subst hn'
        have t3 := texts_kp ht HK3.out (fun x hx => by simp at hx; subst hx; exact hgl)
        have t5 := texts_kp (texts_kp t3 kb (by simp)) k5 (by simp)
        exact ⟨a2, _, c2, T, vs, vs2, e2, hf.len, fun t ht' => Nat.le_trans (hf.few t ht') (by omega), t5, ⟨hv', ho, heach⟩, .inl rfl⟩
      · exact absurd hl (hno' T hf)
    · simp at e1
      obtain ⟨⟨rfl, rfl, rfl⟩, rfl⟩ := e1
      rcases hr5.2 with ⟨T', a2, c2, n2, vs2, hf', hl', _⟩ | ⟨hno', e2⟩
      · exact absurd hl' (hno T' hf')
      · exact ⟨none, 0, 0, [], [], [], e2, by simp, by simp, TextsIs.nil _ _, ⟨rfl, World.ownsRow_nil _ _ _ _, fun i h => by simp at h⟩, .inr rfl⟩
  obtain ⟨a2, n2, c2, T, vs1, vs2, rfl, hB5⟩ := HE
  have hall : Kp [] w w5 := (((((HKW.out.next HK1.out).next HK2.out).trans HK3.out (fun x hx => by simp at hx; subst hx; exact .inr (by omega))).next kb).next k5)
  have HSAME := hide (sameT_any w1.heap.size (Lib.bytesWorld w3 5 s).heap.size (.slice a1 n1 c1) (.slice a2 n2 c2) T vs1 vs2 w5 (by have := hB5.len; omega) hB5.few ⟨hB5.one.len, hB5.one.row, hB5.one.each⟩ hB5.two)
  have HB5 := hide hB5
  have HALL := hide hall
  clear hr5 k5 kb hB5 hall HRR hcb cc3 HR2
  go_wp2_with fail
  refine HSAME.out.mono ?_
  rintro e w6 ⟨rfl, hb6⟩
  have hz6 := hb6.size
  have hbel : Below w.heap.size w w6 := (HALL.out.below (Nat.le_refl _) (by simp)).trans (hb6.mono (by omega))
  have ht6 : TextsIs w6 w1.heap.size (.slice a1 n1 c1) T vs1 := texts_kp HB5.out.one (Pak.Kp.of_below [] hb6) (by simp)
  have hTl := HB5.out.len
  have HTX := hide (text_any5 B P w1.heap.size L (.slice a1 n1 c1) T vs1 w w6 HI.out hbel (Nat.le_of_lt (Nat.lt_trans hzW hgl)) (Nat.le_trans hz2 (Nat.le_trans hz3 (Nat.le_trans hz4 (Nat.le_trans hz5 hz6)))) (tab_on HT.out (hbel.mono (Nat.le_trans hB (Nat.le_of_lt hPlt)))) hB (fb2 hF2 hTl) hF5 (Nat.le_trans hTl (by decide)) HB5.out.few ht6)
  have HBEL := hide (hbel.mono (Nat.le_of_lt hPlt))
  have herr := HB5.out.err
  clear hb6 hbel ht6 HSAME HB5
  go_wp2_with fail
  refine HTX.out.mono ?_
  rintro e w7 ⟨rfl, ⟨L', hI', q1, q3, q4, qp, q2, q5⟩, hb7⟩
  have HEND : Hid ((∃ L', Inv w7 P L' ∧ L'.F1 = L.F1 ∧ L'.F3 = L.F3 ∧ L'.F4 = L.F4 ∧ L'.pv = L.pv ∧ L'.F2.length ≤ L.F2.length + 60 ∧ L'.F5.length = L.F5.length + 1) ∧ Below P w w7) := ⟨⟨L', hI', q1, q3, q4, qp, by omega, q5⟩, HBEL.out.trans hb7⟩
  clear hI' q1 q3 q4 qp q2 q5 hb7 HTX HBEL HALL
  by_cases h0 : er1 = 0
  · subst h0
    clear herr
    go_wp2_with fail
    go_ret
    exact ⟨rfl, HEND.out⟩
  · have hv : (Value.slice a1 n1 c1) = .slice none 0 0 := herr.resolve_left h0
    injection hv with h1 h2 h3
    subst h1 h2 h3
    have hq : (er1 == 0) = false := by simpa using h0
    have hnil : ∀ w', (binOp .eql 78 (.slice none 0 0) (.slice none 0 0)).run Tryz.prog w' = .ok (.bool true) w' := fun _ => by kernel_rfl
    clear herr h0
    go_wp2_with fail
    go_ret
    exact ⟨rfl, HEND.out⟩
end Go.Proofs.YtpdoacfiiledcaaGreatDoor.Own

set_option linter.unusedVariables false
namespace Go.Proofs.YtpdoacfiiledcaaGreatDoor.Own
open Go.RowKit Go.Proofs.YtpdoacfiiledcaaGreatDoor
open Go.Proofs.YtpdoacfiiledcaaGreatDoor.Spl Go.Proofs.YtpdoacfiiledcaaGreatDoor.Pak

/-- What a step leaves: lists that came out, not too many more of them. -/
def Grew (w' : World) (P : Nat) (L : Ls) : Prop :=
  ∃ L', Inv w' P L' ∧ L'.F1 = L.F1 ∧ L'.F4 = L.F4 ∧ L'.pv = L.pv ∧ L'.F2.length ≤ L.F2.length + 60 ∧ L'.F3.length ≤ L.F3.length + 1 ∧ L'.F5.length ≤ L.F5.length + 1
theorem alloc_below {w : World} {P : Nat} (o : Obj) (h : P ≤ w.heap.size) : Below P w (w.alloc o) := (Below.refl _ _).alloc h o

set_option maxHeartbeats 1000000 in
set_option maxRecDepth 100000 in
theorem step3_any (P : Nat) (L : Ls) (a b c d : Int) (s : ByteArray) (al : Option Addr) (capl n : Nat) (nm fl : Value) (D : List Dc) (w : World) (hI : Inv w P L) (hD : DocsAt w al D) (hn : D.length = n) (hnone : al = none → n = 0 ∧ capl = 0) (hb : n ≤ 2000000)
    (hF : (L.F3.length + 1) * 104 ≤ 140737488355328) :
    Calls Tryz.prog 24 #[.pointer (some ⟨P, 0, none⟩), opA 3 a b c d s (.slice al n capl) nm fl] w fun e w' => e = .returned (.bool true) ∧ Grew w' P L ∧ Below P w w' := by
  have hPlt := lt_of_heap hI.hP
  have ab : ∀ o : Obj, Below w.heap.size w (w.alloc o) := fun o => (Below.refl _ _).alloc (Nat.le_refl _) o
  have HFR := hide (fun o : Obj => free3_any P L a b c d s al capl n nm fl D (w.alloc o) (hI.later (ab o)) (hD.kp ((Pak.Kp.refl [] w).alloc o)) hn hnone hb hF)
  clear hI hD hn hnone ab
  unfold opA at HFR ⊢
  go_enter Tryz.func24, Tryz.ntmps24
  go_wp2_with fail
  refine (HFR.out _).mono ?_
  rintro e w1 ⟨rfl, ⟨x, v', hx⟩, hb1⟩
  have HX : Hid (Grew w1 P L) := ⟨_, hx, rfl, rfl, rfl, by show L.F2.length ≤ _; omega, by show (L.F3 ++ [x]).length ≤ _; rw [List.length_append]; exact Nat.le_refl _, by show L.F5.length ≤ _; omega⟩
  have H1 := hide ((alloc_below _ (Nat.le_of_lt hPlt)).trans hb1)
  clear hx hb1 HFR
  go_wp2_with fail
  go_ret
  exact ⟨rfl, HX.out, H1.out⟩

set_option maxHeartbeats 1000000 in
set_option maxRecDepth 100000 in
theorem step4_any (B P : Nat) (L : Ls) (a b c d : Int) (s : ByteArray) (lv nm fl : Value) (w : World) (hI : Inv w P L) (hT : Tab B w) (hB : B ≤ P) (hs : s.size ≤ 2000000)
    (hF2 : (L.F2.length + 60 + 1) * 104 ≤ 140737488355328) (hF5 : (L.F5.length + 1) * 104 ≤ 140737488355328) :
    Calls Tryz.prog 24 #[.pointer (some ⟨P, 0, none⟩), opA 4 a b c d s lv nm fl] w fun e w' => e = .returned (.bool true) ∧ Grew w' P L ∧ Below P w w' := by
  have hPlt := lt_of_heap hI.hP
  have ab : ∀ o : Obj, Below w.heap.size w (w.alloc o) := fun o => (Below.refl _ _).alloc (Nat.le_refl _) o
  have HFR := hide (fun o : Obj => free4_any B P L a b c d s lv nm fl (w.alloc o) (hI.later (ab o)) (tab_on hT ((ab o).mono (Nat.le_trans hB (Nat.le_of_lt hPlt)))) hB hs hF2 hF5)
  clear hI hT ab
  unfold opA at HFR ⊢
  go_enter Tryz.func24, Tryz.ntmps24
  go_wp2_with fail
  refine (HFR.out _).mono ?_
  rintro e w1 ⟨rfl, ⟨L', hx, q1, q3, q4, qp, q2, q5⟩, hb1⟩
  have HX : Hid (Grew w1 P L) := ⟨L', hx, q1, q4, qp, q2, by rw [q3]; exact Nat.le_succ _, by rw [q5]; exact Nat.le_refl _⟩
  have H1 := hide ((alloc_below _ (Nat.le_of_lt hPlt)).trans hb1)
  clear hx hb1 HFR q1 q3 q4 qp q2 q5
  go_wp2_with fail
  go_ret
  exact ⟨rfl, HX.out, H1.out⟩
end Go.Proofs.YtpdoacfiiledcaaGreatDoor.Own
