import Derived.Test.YtpdoacfiiledcaaPakV
namespace Go.Proofs.Ytpdoacfiiledcaa.Pak
open Go.RowKit Go.Proofs.Ytpdoacfiiledcaa SiftM
set_option linter.unusedVariables false

theorem tup2 {a b c d : Value} (h1 : a = c) (h2 : b = d) : Ending.returned (.tuple #[a, b]) = .returned (.tuple #[c, d]) := by rw [h1, h2]

set_option maxHeartbeats 800000 in
set_option maxRecDepth 100000 in
/-- Bytes that are not read to their end are no file. -/
theorem pread_bad (a : Option Addr) (cap : Nat) (l : List UInt8) (w : World) (hv : Vw w w.heap.size a l) (hl : l.length ≤ 1000000) (hc : l.length ≤ cap) (hc2 : cap ≤ 9223372036854775807) (hbad : (tableF (unsealF l)).2.2.2.2 ≠ some []) :
    Calls Try.prog 20 #[.slice a l.length cap] w fun e w' => e = .returned (.tuple #[.slice none 0 0, .bool false]) ∧ Kp [] w w' := by
  have hU := hide (unseal_any a cap l w hv hl hc hc2)
  have hT := hide (fun R w' (h : Rd w' R w.heap.size (unsealF l)) (hB : w.heap.size ≤ w'.heap.size) => table_rd R w.heap.size (unsealF l) w' h hB)
  generalize hX : tableF (unsealF l) = X at *
  obtain ⟨ids, terms, c, f, st⟩ := X
  simp only at hbad hT
  clear hX
  go_enter Try.func20, Try.ntmps20
  go_wp2_with fail
  refine hU.out.mono ?_
  rintro e w1 ⟨R, rfl, hr1, hk1⟩
  have HR1 := hide hr1
  have hsz1 := hk1.size
  clear hr1
  go_wp2_with fail
  refine (hT.out R w1 HR1.out hsz1).mono ?_
  rintro e w2 ⟨T, M, iv, tv, rfl, hr2, ht2, hb2⟩
  obtain ⟨ai, ci, ei, _⟩ := owns_forms ht2.ids
  obtain ⟨at', ct, et, _⟩ := owns_forms ht2.terms
  subst ei et
  have hsz2 := hb2.size
  obtain ⟨W, hW⟩ : ∃ W, w2.alloc (.cells #[.slice ai ids.length ci, .slice at' terms.length ct, .map (some M)] 66) = W := ⟨_, rfl⟩
  have kW : Kp [] w2 W := by rw [← hW]; exact (Kp.refl _ _).alloc _
  have hrW := hr2.kp kW (by simp) (by simp)
  have hD := hide (done_rd R w.heap.size st W hrW)
  have hdd : decide (st = some []) = false := by simpa using hbad
  rw [hdd] at hD
  clear hr2 ht2 hrW hdd
  go_wp2_with fail
  clear hW
  refine hD.out.mono ?_
  rintro e w3 ⟨rfl, rfl⟩
  go_wp2_with fail
  go_ret2
  refine ⟨rfl, ?_⟩
  have hbel : Below w.heap.size w w3 := ((hk1.below (Nat.le_refl _) (by simp)).trans hb2).trans (kW.below (by omega) (by simp))
  exact Kp.of_below [] hbel

set_option maxHeartbeats 800000 in
set_option maxRecDepth 100000 in
theorem pread_good (a : Option Addr) (cap : Nat) (l : List UInt8) (ids : List Nat) (terms : List (List UInt8)) (c : Nat) (f : Nat → Nat → Option Nat) (rows : List (List Nat)) (w : World) (hv : Vw w w.heap.size a l) (hl : l.length ≤ 1000000) (hc : l.length ≤ cap) (hc2 : cap ≤ 9223372036854775807)
    (htab : tableF (unsealF l) = (ids, terms, c, f, some [])) (hr : RowsAre f rows terms.length) (hlen : rows.length = ids.length) (hn : ids.length ≤ 60) (hnt : terms.length ≤ 100000) (hcc : c ≤ 1000000000) (hsm : ∀ r ∈ rows, (wordsOf terms r).length ≤ 1000 ∧ sumL (wordsOf terms r) ≤ 1000000) :
    Calls Try.prog 20 #[.slice a l.length cap] w fun e w' => (mayB (ids.zip (rows.map (wordsOf terms))) c = false ∧ e = .returned (.tuple #[.slice none 0 0, .bool false]) ∨
      mayB (ids.zip (rows.map (wordsOf terms))) c = true ∧ ∃ v vs, e = .returned (.tuple #[v, .bool true]) ∧ TextsIs w' w.heap.size v (ids.zip (rows.map (wordsOf terms))) vs) ∧ Kp [] w w' := by
  have hU := hide (unseal_any a cap l w hv hl hc hc2)
  have hT := hide (fun R w' (h : Rd w' R w.heap.size (unsealF l)) (hB : w.heap.size ≤ w'.heap.size) => table_rd R w.heap.size (unsealF l) w' h hB)
  rw [htab] at hT
  simp only at hT
  obtain ⟨TT, hTT⟩ : ∃ TT, ids.zip (rows.map (wordsOf terms)) = TT := ⟨_, rfl⟩
  rw [hTT]
  have HTT := hide hTT
  clear hTT
  have HR := hide hr
  have Hlen := hide hlen
  have HS := hide hsm
  clear hr hlen hsm htab
  go_enter Try.func20, Try.ntmps20
  go_wp2_with fail
  refine hU.out.mono ?_
  rintro e w1 ⟨R, rfl, hr1, hk1⟩
  have HR1 := hide hr1
  have hsz1 := hk1.size
  clear hr1
  go_wp2_with fail
  refine (hT.out R w1 HR1.out hsz1).mono ?_
  rintro e w2 ⟨T, M, iv, tv, rfl, hr2, ht2, hb2⟩
  obtain ⟨ai, ci, ei, _⟩ := owns_forms ht2.ids
  obtain ⟨at', ct, et, _⟩ := owns_forms ht2.terms
  subst ei et
  have hsz2 := hb2.size
  obtain ⟨W, hW⟩ : ∃ W, w2.alloc (.cells #[.slice ai ids.length ci, .slice at' terms.length ct, .map (some M)] 66) = W := ⟨_, rfl⟩
  have kW : Kp [] w2 W := by rw [← hW]; exact (Kp.refl _ _).alloc _
  have hrW := hr2.kp kW (by simp) (by simp)
  have hD := hide (done_rd R w.heap.size (some []) W hrW)
  have hbW : W.heap[w2.heap.size]? = some (.cells #[.slice ai ids.length ci, .slice at' terms.length ct, .map (some M)] 66 (0, 0)) := by rw [← hW]; exact heap_alloc_new w2 _
  obtain ⟨b0, b1, b2, _, _, _⟩ := tb_cells hbW
  have hmW := ht2.map.kp kW (by simp)
  have hX := hide (texts_any M c w.heap.size f (.slice ai ids.length ci) (.slice at' terms.length ct) ids terms rows W hmW (kW.owns ht2.ids (by simp)) (kW.owns ht2.terms (by simp)) HR.out Hlen.out hn hnt)
  rw [HTT.out] at hX
  have HMW := hide hmW
  have HBW := hide hbW
  have hbel : Below w.heap.size w W := ((hk1.below (Nat.le_refl _) (by simp)).trans hb2).trans (kW.below (by omega) (by simp))
  simp only [decide_true] at hD
  clear hr2 ht2 hrW hmW hbW
  go_wp2_with fail
  clear hW
  refine hD.out.mono ?_
  rintro e w3 ⟨rfl, rfl⟩
  go_wp2_with fail
  refine hX.out.mono ?_
  rintro e w4 ⟨v, vs, rfl, ht4, hk4⟩
  obtain ⟨av, cv, ev, _⟩ := owns_forms ht4.row
  subst ev
  have hb4 := hk4.heap HBW.out (by simp)
  obtain ⟨d0, d1, d2, _, _, _⟩ := tb_cells hb4
  have hm4 := HMW.out.kp hk4 (by simp)
  have hlen4 := hm4.len
  have hzl : TT.length ≤ 1000 := by rw [← HTT.out]; simp [Hlen.out]; omega
  have hMB := hide (maybe_any w3.heap.size c _ _ vs w4 ht4 hzl hcc (by
    intro t ht
    rw [← HTT.out] at ht
    have := List.of_mem_zip ht
    obtain ⟨r, hr, he⟩ := List.mem_map.1 this.2
    rw [← he]
    exact HS.out r hr))
  have hsz3 := hbel.size
  have ht4' : TextsIs w4 w.heap.size (.slice av TT.length cv) TT vs := by
    refine ⟨ht4.len, ⟨ht4.row.1, ?_⟩, fun i h1 h2 => ⟨(ht4.each i h1 h2).1, ?_⟩, ht4.apart⟩
    · rcases ht4.row.2 with h' | ⟨g, cp, cur, e1, hb, rest⟩
      · exact .inl h'
      · exact .inr ⟨g, cp, cur, e1, by omega, rest⟩
    · rcases (ht4.each i h1 h2).2 with h' | ⟨g, cp, cur, e1, hb, rest⟩
      · exact .inl h'
      · exact .inr ⟨g, cp, cur, e1, by omega, rest⟩
  have HT4 := hide ht4'
  clear ht4 ht4' hb4 hm4 HS
  have HL4 := hide hlen4
  clear b0 b1 b2
  go_wp2_with fail
  refine hMB.out.mono ?_
  rintro e w5 ⟨rfl, hk5⟩
  have hbel5 : Below w.heap.size w w5 := hbel.trans ((hk4.next hk5).below (by omega) (by simp))
  cases hmb : mayB TT c
  · go_wp2_with fail
    go_ret2
    exact ⟨.inl ⟨hmb, rfl⟩, Kp.of_below [] hbel5⟩
  · go_wp2_with fail
    go_ret2
    exact ⟨.inr ⟨hmb, _, vs, rfl, HT4.out.kp0 hk5⟩, Kp.of_below [] hbel5⟩

set_option maxHeartbeats 800000 in
set_option maxRecDepth 100000 in
theorem read_bad (a : Option Addr) (cap : Nat) (l : List UInt8) (w : World) (hv : Vw w w.heap.size a l) (hl : l.length ≤ 1000000) (hc : l.length ≤ cap) (hc2 : cap ≤ 9223372036854775807) (hbad : (tableF (unsealF l)).2.2.2.2 ≠ some []) :
    Calls Try.prog 10 #[.slice a l.length cap] w fun e w' => e = .returned (.tuple #[.slice none 0 0, .int .i64 12]) ∧ Kp [] w w' := by
  have hP := hide (pread_bad a cap l w hv hl hc hc2 hbad)
  clear hbad hv
  go_enter Try.func10, Try.ntmps10
  go_wp2_with fail
  refine hP.out.mono ?_
  rintro e w1 ⟨rfl, hk1⟩
  go_wp2_with fail
  go_ret2
  exact ⟨rfl, hk1⟩

set_option maxHeartbeats 800000 in
set_option maxRecDepth 100000 in
theorem read_good (a : Option Addr) (cap : Nat) (l : List UInt8) (ids : List Nat) (terms : List (List UInt8)) (c : Nat) (f : Nat → Nat → Option Nat) (rows : List (List Nat)) (w : World) (hv : Vw w w.heap.size a l) (hl : l.length ≤ 1000000) (hc : l.length ≤ cap) (hc2 : cap ≤ 9223372036854775807)
    (htab : tableF (unsealF l) = (ids, terms, c, f, some [])) (hr : RowsAre f rows terms.length) (hlen : rows.length = ids.length) (hn : ids.length ≤ 60) (hnt : terms.length ≤ 100000) (hcc : c ≤ 1000000000) (hsm : ∀ r ∈ rows, (wordsOf terms r).length ≤ 1000 ∧ sumL (wordsOf terms r) ≤ 1000000) (hmb : mayB (ids.zip (rows.map (wordsOf terms))) c = true) :
    Calls Try.prog 10 #[.slice a l.length cap] w fun e w' => ∃ v vs, e = .returned (.tuple #[v, .int .i64 0]) ∧ TextsIs w' w.heap.size v (ids.zip (rows.map (wordsOf terms))) vs ∧ Kp [] w w' := by
  have hP := hide (pread_good a cap l ids terms c f rows w hv hl hc hc2 htab hr hlen hn hnt hcc hsm)
  rw [hmb] at hP
  generalize ids.zip (rows.map (wordsOf terms)) = TT at *
  clear htab hr hsm hv hmb
  go_enter Try.func10, Try.ntmps10
  go_wp2_with fail
  refine hP.out.mono ?_
  rintro e w1 ⟨h | ⟨_, v, vs, rfl, ht⟩, hk1⟩
  · simp at h
  obtain ⟨av, cv, ev, _⟩ := owns_forms ht.row
  subst ev
  have HT := hide ht
  clear ht
  go_wp2_with fail
  go_ret2
  exact ⟨_, vs, rfl, HT.out, hk1⟩
end Go.Proofs.Ytpdoacfiiledcaa.Pak
