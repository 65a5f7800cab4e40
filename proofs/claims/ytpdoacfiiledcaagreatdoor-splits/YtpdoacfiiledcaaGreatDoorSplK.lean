import Derived.Test.YtpdoacfiiledcaaGreatDoorSplJ
namespace Go.Proofs.YtpdoacfiiledcaaGreatDoor.Spl
open Go.RowKit Go.Proofs.YtpdoacfiiledcaaGreatDoor Go.Proofs.YtpdoacfiiledcaaGreatDoor.SiftM
set_option linter.unusedVariables false

set_option maxHeartbeats 1000000 in
set_option maxRecDepth 100000 in
theorem own_some (B base n m g cap : Nat) (ws : List Value) (w : World) (hm : m ≤ 9223372036854775807) (hT : Tab B w) (hB : B ≤ base) (hbase : base ≤ w.heap.size) (hn : n ≤ 900) (hws : ws.length = n) (hown0 : w.ownsRow base 9 1 (.slice (some ⟨g, 0, none⟩) n cap) n ws) :
    Calls Tryz.prog 172 #[.slice (some ⟨g, 0, none⟩) n cap, .int .i64 m] w fun e w' => ∃ o t h, e = .returned (.agg #[.slice (some ⟨g, 0, none⟩) n cap, o, t, h, .int .i64 m]) ∧ Kept w' (.slice (some ⟨g, 0, none⟩) n cap) o t h n m ∧ Below base w w' := by
  have hT0 := hide (tab_on hT (((Below.refl B w).alloc (by omega) (.cells zero59 111))))
  replace hT := hide hT
  have hg := hown0.lt g rfl
  have hg1 := hg.1
  have hg2 := hg.2
  clear hg
  replace hws := hide hws
  go_enter Tryz.func172, Tryz.ntmps172
  go_wp2_with fail
  refine (text_any B m _ hm hT0.out).mono ?_
  rintro e w1 ⟨rfl, hb1⟩
  rw [World.size_alloc] at hb1
  have hz1 : w.heap.size + 1 ≤ w1.heap.size := by simpa using hb1.size
  have hb0 : Below w.heap.size w w1 := ((Below.refl _ _).alloc (Nat.le_refl _) _).trans (hb1.mono (by omega))
  have hR : w1.heap[w.heap.size]? = some (.cells zero59 111 (0, 0)) := by rw [hb1.block w.heap.size (by omega)]; exact heap_alloc_new w _
  have hown1 := owns_below hown0 hb0
  clear hb1 hT0 hT hown0
  replace hR := hide hR
  go_wp2_with fail
  go_loopw [6] (fun i wr => ∃ j : Nat, j ≤ n ∧ i = .int .i64 j ∧ wr.ownsRow base 9 1 (.slice (some ⟨g, 0, none⟩) n cap) n (rep j m ++ ws.drop j) ∧ Hid (wr.heap[w.heap.size]? = some (.cells zero59 111 (0, 0))) ∧ Below base w wr ∧ w.heap.size + 1 ≤ wr.heap.size) (fun i _ => n - (intOf i).toNat)
  case atStart => exact ⟨0, Nat.zero_le _, rfl, hown1, hR, hb0.mono hbase, hz1⟩
  case round =>
    clear hown1 hR hb0 hz1
    obtain ⟨j, hj, rfl, hown, hR, hb, hz⟩ := hrel
    by_cases hlt : j < n
    · have h1 : (j : Int) < (n : Int) := by omega
      have h0 : (0 : Int) ≤ (j : Int) := by omega
      have hcell : ∃ x, wr.cell? ⟨g, j, none⟩ = some x := by
        have hl : (rep j m ++ ws.drop j).length = n := by rw [List.length_append, rep_len, List.length_drop, hws.out]; omega
        exact ⟨_, by rw [hown.cellAt j (by omega), List.getElem?_eq_getElem (by omega)]⟩
      obtain ⟨x, hx⟩ := hcell
      have hfz : wr.frozen? ⟨g, j, none⟩ = false := hown.frozenAt j
      have hst := hide (hown.stored j (.string (tx m))).1
      have hmk := hide (mark_set n m j ws hws.out hlt)
      replace hown := hide hown
      go_wp2_with fail
      go_roundw
      case rel =>
        refine ⟨j + 1, by omega, by go_num, ?_, ?_, hb.setCell (p := ⟨g, j, none⟩) hg1 _, by simpa using hz⟩
        · have := hst.out; rw [hmk.out] at this; exact this
        · show _ = _
          rw [Below.heap_setCell _ _ _ _ (show w.heap.size ≠ g by omega)]; exact hR.out
      case measure => simp [intOf]; omega
    · have hjn : n = j := by omega
      subst hjn
      rw [List.drop_of_length_le (by rw [hws.out]; exact Nat.le_refl _), List.append_nil] at hown
      go_wp2_with (first
        | (at_builtin; refine wpList_mark _ rfl _ _ rfl base n m 1 _ rfl (hown.alloc _) ⟨wr.heap.size, 0, none⟩ 1 rfl (World.news_of_block (cs := #[.string (tx m)]) (t := 9) (fr := (0, 0)) (heap_alloc_new _ _)) (by omega) (by omega) (by simp; omega) ?_; intro go co w2 M1)
        | (at_builtin; refine wpList_mark _ rfl _ _ rfl base n m 2 _ rfl (M1.old.alloc _) ⟨w2.heap.size, 0, none⟩ 2 rfl (World.news_of_block (cs := #[.string (tx m), .string (tx m)]) (t := 9) (fr := (0, 0)) (heap_alloc_new _ _)) (by omega) (by omega) (by have := M1.grown.size; simp at this ⊢; omega) ?_; intro gt ct w3 M2)
        | (at_builtin; refine wpList_mark _ rfl _ _ rfl base n m 3 _ rfl (M2.old.alloc _) ⟨w3.heap.size, 0, none⟩ 3 rfl (World.news_of_block (cs := #[.string (tx m), .string (tx m), .string (tx m)]) (t := 9) (fr := (0, 0)) (heap_alloc_new _ _)) (by omega) (by omega) (by have := M1.grown.size; have := M2.grown.size; simp at *; omega) ?_; intro gh ch w4 M3; obtain ⟨r0, r1, r2, r3, r4, f0, f1, f2, f3, f4⟩ := cells59 (own_block hR.out M1 M2 M3 hown))
        | fail)
      have hE := own_end (R := w.heap.size) (by omega) hR.out hb (by omega) hbase M1 M2 M3 hown (.slice (some ⟨g, 0, none⟩) n cap) (.slice (some ⟨go, 0, none⟩) (n + 1) co) (.slice (some ⟨gt, 0, none⟩) (n + 2) ct) (.slice (some ⟨gh, 0, none⟩) (n + 3) ch) (.int .i64 m)
      refine bodyPost_ret (v := .agg #[.slice (some ⟨g, 0, none⟩) n cap, .slice (some ⟨go, 0, none⟩) (n + 1) co, .slice (some ⟨gt, 0, none⟩) (n + 2) ct, .slice (some ⟨gh, 0, none⟩) (n + 3) ch, .int .i64 m]) (by simp [results, Tryz.results172, go_sem, r0, r1, r2, r3, r4]) rfl ⟨_, _, _, rfl, hE.1, hE.2⟩

theorem own_any (B base n m : Nat) (v : Value) (ws : List Value) (w : World) (hm : m ≤ 9223372036854775807) (hT : Tab B w) (hB : B ≤ base) (hbase : base ≤ w.heap.size) (hn : n ≤ 900) (hown : w.ownsRow base 9 1 v n ws) :
    Calls Tryz.prog 172 #[v, .int .i64 m] w fun e w' => ∃ o t h, e = .returned (.agg #[v, o, t, h, .int .i64 m]) ∧ Kept w' v o t h n m ∧ Below base w w' := by
  obtain ⟨a, cap, rfl, hsome⟩ := owns_forms hown
  have hl : ws.length = n := by have := hown.1; omega
  by_cases h0 : n = 0
  · subst h0
    have hw : ws = [] := List.length_eq_zero_iff.1 hl
    subst hw
    exact own_zero B base m a cap w hm hT hB hbase hown
  · obtain ⟨g, rfl⟩ := hsome (by omega)
    exact own_some B base n m g cap ws w hm hT hB hbase hn hl hown
end Go.Proofs.YtpdoacfiiledcaaGreatDoor.Spl
