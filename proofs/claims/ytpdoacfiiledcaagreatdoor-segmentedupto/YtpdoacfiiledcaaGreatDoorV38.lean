import Derived.Test.YtpdoacfiiledcaaGreatDoorV37
import Derived.Test.YtpdoacfiiledcaaGreatDoorV36
namespace Go.Proofs.YtpdoacfiiledcaaGreatDoor.Own
open Go.RowKit Go.Proofs.YtpdoacfiiledcaaGreatDoor Go.Proofs.YtpdoacfiiledcaaGreatDoor.Spl
set_option linter.unusedVariables false

theorem Tryz.info295o : (Tryz.prog.info? 295).map (fun i => (i.zero, i.size, i.bytes)) = some (some (.agg #[.int .i64 0, .int .i64 0, .int .i64 0, .int .i64 0, .int .i64 0, .int .i64 0]), 6, 48) := by kernel_rfl
theorem fam295 : ∃ i0, Fam 115 295 6 48 i0 (.agg #[.int .i64 0, .int .i64 0, .int .i64 0, .int .i64 0, .int .i64 0, .int .i64 0]) := by
  obtain ⟨i0, hi, hz0, hz1, hz2⟩ := info_parts Tryz.info295o
  exact ⟨i0, Tryz.underlying115, hi, hz0, hz1, hz2, rfl, by omega⟩
/-- The mark of a list of segments. -/
abbrev mgC (m : Nat) : List Value := [.int .i64 (mt m), .int .i64 0, .int .i64 0, .int .i64 0, .int .i64 0, .int .i64 0]
theorem mark6 (x y z p q r : Value) (n j : Nat) (ws : List Value) (hw : ws.length = n * 6) (hj : j < n) : ((((((repG [x, y, z, p, q, r] j ++ ws.drop (j * 6)).set (j * 6) x).set (j * 6 + 1) y).set (j * 6 + 2) z).set (j * 6 + 3) p).set (j * 6 + 4) q).set (j * 6 + 5) r = repG [x, y, z, p, q, r] (j + 1) ++ ws.drop ((j + 1) * 6) := by
  have hl : (repG [x, y, z, p, q, r] j).length = j * 6 := by rw [repG_len]; simp
  have h1 : ws.drop (j * 6) = ws[j * 6] :: ws[j * 6 + 1] :: ws[j * 6 + 2] :: ws[j * 6 + 3] :: ws[j * 6 + 4] :: ws[j * 6 + 5] :: ws.drop ((j + 1) * 6) := by
    rw [List.drop_eq_getElem_cons (by omega), List.drop_eq_getElem_cons (by omega), List.drop_eq_getElem_cons (by omega), List.drop_eq_getElem_cons (by omega), List.drop_eq_getElem_cons (by omega), List.drop_eq_getElem_cons (by omega)]
    rw [show j * 6 + 1 + 1 + 1 + 1 + 1 + 1 = (j + 1) * 6 by omega]
  have hs : ∀ (t : List Value) (k : Nat) (u : Value), (repG [x, y, z, p, q, r] j ++ t).set (j * 6 + k) u = repG [x, y, z, p, q, r] j ++ t.set k u := fun t k u => by
    rw [List.set_append_right _ _ (by rw [hl]; omega), hl, Nat.add_sub_cancel_left]
  have hs0 : ∀ (t : List Value) (u : Value), (repG [x, y, z, p, q, r] j ++ t).set (j * 6) u = repG [x, y, z, p, q, r] j ++ t.set 0 u := fun t u => hs t 0 u
  rw [h1, hs0, hs, hs, hs, hs, hs, ← repG_add]
  simp [repG]
theorem box6 {w : World} {X : Nat} {x y z p q r : Value} {T : TypeId} (h : w.heap[X]? = some (.cells #[x, y, z, p, q, r] T (0, 0))) : w.cell? ⟨X, 0, none⟩ = some x ∧ w.cell? ⟨X, 1, none⟩ = some y ∧ w.cell? ⟨X, 2, none⟩ = some z ∧ w.cell? ⟨X, 3, none⟩ = some p ∧ w.cell? ⟨X, 4, none⟩ = some q ∧ w.cell? ⟨X, 5, none⟩ = some r := by
  simp [World.cell?, h]

set_option maxHeartbeats 4000000 in
set_option maxRecDepth 100000 in
theorem ownG_any (base n m : Nat) (v : Value) (ws : List Value) (w : World) (hm : m ≤ 4611686018427387904) (hbase : base ≤ w.heap.size) (hn : n ≤ 1000000000) (hown0 : w.ownsRow base 295 6 v n ws) :
    Calls Tryz.prog 201 #[v, .int .i64 m] w fun e w' => ∃ o t h, e = .returned (.agg #[v, o, t, h, .int .i64 m]) ∧ KeptG 295 w' v o t h n (mgC m) ∧ Kp v.ownBlock.toList w w' ∧ ∀ u ∈ [o, t, h], ∀ g, u.ownBlock = some g → base ≤ g := by
  obtain ⟨i0, hF⟩ := fam295
  have q1 := mt_wrap m hm
  have hone : ∀ u ∈ mgC m, u.oneCell' = true := by intro u hu; simp at hu; rcases hu with rfl | rfl <;> rfl
  obtain ⟨a, cap, rfl, hsome⟩ := owns_forms hown0
  have hws : Hid (ws.length = n * 6) := hown0.1
  have hgl : Hid (∀ g, a = some ⟨g, 0, none⟩ → base ≤ g ∧ g < w.heap.size) := fun g hg => by subst hg; exact ⟨(hown0.lt g rfl).1, (hown0.lt g rfl).2⟩
  have hvo : Hid ((Value.slice a n cap).ownBlock ≠ some (w.heap.size + 1) ∧ (Value.slice a n cap).ownBlock ≠ some w.heap.size) := ⟨fun hh => by have := (hown0.lt _ hh).2; omega, fun hh => by have := (hown0.lt _ hh).2; omega⟩
  have hso := hide hsome
  have HO0 := hide hown0
  clear hown0 hsome
  go_enter Tryz.func201, Tryz.ntmps201
  go_wp2_with fail
  obtain ⟨W, hW⟩ : ∃ W, (w.alloc (.cells #[.slice none 0 0, .slice none 0 0, .slice none 0 0, .slice none 0 0, .int .i64 0] 117)).alloc (.cells #[.int .i64 (mt m), .int .i64 0, .int .i64 0, .int .i64 0, .int .i64 0, .int .i64 0] 295) = W := ⟨_, rfl⟩
  have hR : Hid (W.heap[w.heap.size]? = some (.cells zero5 117 (0, 0))) := by
    show _ = _
    rw [← hW, Below.heap_alloc _ _ _ (by simp)]; exact heap_alloc_new w _
  have hX : Hid (W.heap[w.heap.size + 1]? = some (.cells #[.int .i64 (mt m), .int .i64 0, .int .i64 0, .int .i64 0, .int .i64 0, .int .i64 0] 295 (0, 0))) := by
    show _ = _
    rw [← hW]
    have := heap_alloc_new (w.alloc (.cells #[.slice none 0 0, .slice none 0 0, .slice none 0 0, .slice none 0 0, .int .i64 0] 117)) (.cells #[.int .i64 (mt m), .int .i64 0, .int .i64 0, .int .i64 0, .int .i64 0, .int .i64 0] 295)
    rw [World.size_alloc] at this
    exact this
  have hown1 : Hid (W.ownsRow base 295 6 (.slice a n cap) n ws) := by show World.ownsRow _ _ _ _ _ _ _; rw [← hW]; exact (HO0.out.alloc _).alloc _
  have hb0 : Hid (Kp (Value.slice a n cap).ownBlock.toList w W) := by show Kp _ _ _; rw [← hW]; exact ((Pak.Kp.refl _ _).alloc _).alloc _
  have hbW : w.heap.size + 2 ≤ W.heap.size := by rw [← hW]; simp
  rw [hW]
  clear hW HO0
  go_loopw [6] (fun i wr => ∃ j : Nat, j ≤ n ∧ i = .int .i64 j ∧ Hid (wr.ownsRow base 295 6 (.slice a n cap) n (repG (mgC m) j ++ ws.drop (j * 6))) ∧ Hid (wr.heap[w.heap.size]? = some (.cells zero5 117 (0, 0))) ∧ Hid (wr.heap[w.heap.size + 1]? = some (.cells #[.int .i64 (mt m), .int .i64 0, .int .i64 0, .int .i64 0, .int .i64 0, .int .i64 0] 295 (0, 0))) ∧ Hid (Kp (Value.slice a n cap).ownBlock.toList w wr) ∧ w.heap.size + 2 ≤ wr.heap.size) (fun i _ => n - (intOf i).toNat)
  case atStart => exact ⟨0, Nat.zero_le _, rfl, by simpa [repG] using hown1, hR, hX, hb0, hbW⟩
  case round =>
    clear hown1 hR hX hb0 hbW
    obtain ⟨j, hj, rfl, hown, hR, hX, hb, hz⟩ := hrel
    by_cases hlt : j < n
    · obtain ⟨g, rfl⟩ := hso.out (by omega)
      have hg1 := (hgl.out g rfl).1
      have hg2 := (hgl.out g rfl).2
      have h1 : (j : Int) < (n : Int) := by omega
      have h0 : (0 : Int) ≤ (j : Int) := by omega
      obtain ⟨y0, y1, y2, y3, y4, y5⟩ := box6 hX.out
      have hl : (repG (mgC m) j ++ ws.drop (j * 6)).length = n * 6 := by rw [List.length_append, repG_len, List.length_drop, hws.out]; simp; omega
      obtain ⟨x0, hx0⟩ : ∃ x, wr.cell? ⟨g, j * 6, none⟩ = some x := ⟨_, by rw [hown.out.cellAt (j * 6) (by omega), List.getElem?_eq_getElem (by omega)]⟩
      have hf0 : wr.frozen? ⟨g, j * 6, none⟩ = false := hown.out.frozenAt (j * 6)
      obtain ⟨x1, hx1⟩ : ∃ x, wr.cell? ⟨g, j * 6 + 1, none⟩ = some x := ⟨_, by rw [hown.out.cellAt (j * 6 + 1) (by omega), List.getElem?_eq_getElem (by omega)]⟩
      have hf1 : wr.frozen? ⟨g, j * 6 + 1, none⟩ = false := hown.out.frozenAt (j * 6 + 1)
      obtain ⟨x2, hx2⟩ : ∃ x, wr.cell? ⟨g, j * 6 + 2, none⟩ = some x := ⟨_, by rw [hown.out.cellAt (j * 6 + 2) (by omega), List.getElem?_eq_getElem (by omega)]⟩
      have hf2 : wr.frozen? ⟨g, j * 6 + 2, none⟩ = false := hown.out.frozenAt (j * 6 + 2)
      obtain ⟨x3, hx3⟩ : ∃ x, wr.cell? ⟨g, j * 6 + 3, none⟩ = some x := ⟨_, by rw [hown.out.cellAt (j * 6 + 3) (by omega), List.getElem?_eq_getElem (by omega)]⟩
      have hf3 : wr.frozen? ⟨g, j * 6 + 3, none⟩ = false := hown.out.frozenAt (j * 6 + 3)
      obtain ⟨x4, hx4⟩ : ∃ x, wr.cell? ⟨g, j * 6 + 4, none⟩ = some x := ⟨_, by rw [hown.out.cellAt (j * 6 + 4) (by omega), List.getElem?_eq_getElem (by omega)]⟩
      have hf4 : wr.frozen? ⟨g, j * 6 + 4, none⟩ = false := hown.out.frozenAt (j * 6 + 4)
      obtain ⟨x5, hx5⟩ : ∃ x, wr.cell? ⟨g, j * 6 + 5, none⟩ = some x := ⟨_, by rw [hown.out.cellAt (j * 6 + 5) (by omega), List.getElem?_eq_getElem (by omega)]⟩
      have hf5 : wr.frozen? ⟨g, j * 6 + 5, none⟩ = false := hown.out.frozenAt (j * 6 + 5)
      have hst := hide ((((((((((((hown.out.stored (j * 6) (.int .i64 (mt m))).1).stored (j * 6 + 1) (.int .i64 0)).1).stored (j * 6 + 2) (.int .i64 0)).1).stored (j * 6 + 3) (.int .i64 0)).1).stored (j * 6 + 4) (.int .i64 0)).1).stored (j * 6 + 5) (.int .i64 0)).1)
      have hmk := hide (mark6 (.int .i64 (mt m)) (.int .i64 0) (.int .i64 0) (.int .i64 0) (.int .i64 0) (.int .i64 0) n j ws hws.out hlt)
      clear hl
      go_wp2_with fail
      go_roundw
      case rel =>
        refine ⟨j + 1, by omega, by go_num, ?_, ?_, ?_, ((((((hb.out.setCell (p := ⟨g, j * 6, none⟩) (.inl (by simp [Value.ownBlock])) _).setCell (p := ⟨g, j * 6 + 1, none⟩) (.inl (by simp [Value.ownBlock])) _).setCell (p := ⟨g, j * 6 + 2, none⟩) (.inl (by simp [Value.ownBlock])) _).setCell (p := ⟨g, j * 6 + 3, none⟩) (.inl (by simp [Value.ownBlock])) _).setCell (p := ⟨g, j * 6 + 4, none⟩) (.inl (by simp [Value.ownBlock])) _).setCell (p := ⟨g, j * 6 + 5, none⟩) (.inl (by simp [Value.ownBlock])) _), by simpa using hz⟩
        · show World.ownsRow _ _ _ _ _ _ _
          have := hst.out; rw [hmk.out] at this; exact this
        · show _ = _
          rw [Below.heap_setCell _ _ _ _ (show w.heap.size ≠ g by omega), Below.heap_setCell _ _ _ _ (show w.heap.size ≠ g by omega), Below.heap_setCell _ _ _ _ (show w.heap.size ≠ g by omega), Below.heap_setCell _ _ _ _ (show w.heap.size ≠ g by omega), Below.heap_setCell _ _ _ _ (show w.heap.size ≠ g by omega), Below.heap_setCell _ _ _ _ (show w.heap.size ≠ g by omega)]; exact hR.out
        · show _ = _
          rw [Below.heap_setCell _ _ _ _ (show w.heap.size + 1 ≠ g by omega), Below.heap_setCell _ _ _ _ (show w.heap.size + 1 ≠ g by omega), Below.heap_setCell _ _ _ _ (show w.heap.size + 1 ≠ g by omega), Below.heap_setCell _ _ _ _ (show w.heap.size + 1 ≠ g by omega), Below.heap_setCell _ _ _ _ (show w.heap.size + 1 ≠ g by omega), Below.heap_setCell _ _ _ _ (show w.heap.size + 1 ≠ g by omega)]; exact hX.out
      case measure => simp [intOf]; omega
    · have hjn : n = j := by omega
      subst hjn
      have hown2 := hown.out
      rw [List.drop_of_length_le (by rw [hws.out]; exact Nat.le_refl _), List.append_nil] at hown2
      replace hown := hown2
      clear hown2
      have hbr : base ≤ wr.heap.size := by omega
      have HZ := hide hz
      obtain ⟨y0, y1, y2, y3, y4, y5⟩ := box6 hX.out
      clear hz
      go_wp2_with (first
        | (at_builtin; refine wpList_markG hF _ rfl _ _ rfl base n 1 (mgC m) rfl hone _ rfl (hown.alloc _) ⟨wr.heap.size, 0, none⟩ 1 rfl (World.news_of_block (cs := #[.int .i64 (mt m), .int .i64 0, .int .i64 0, .int .i64 0, .int .i64 0, .int .i64 0]) (t := 295) (fr := (0, 0)) (heap_alloc_new _ _)) (by omega) (by omega) (by omega) (by simp; omega) ?_; intro go co w2 M1; have hX2 := box_onG M1 hvo.out.1 hX.out; obtain ⟨z0, z1, z2, z3, z4, z5⟩ := box6 hX2)
        | (at_builtin; refine wpList_markG hF _ rfl _ _ rfl base n 2 (mgC m) rfl hone _ rfl (M1.old.alloc _) ⟨w2.heap.size, 0, none⟩ 2 rfl (World.news_of_block (cs := #[.int .i64 (mt m), .int .i64 0, .int .i64 0, .int .i64 0, .int .i64 0, .int .i64 0, .int .i64 (mt m), .int .i64 0, .int .i64 0, .int .i64 0, .int .i64 0, .int .i64 0]) (t := 295) (fr := (0, 0)) (heap_alloc_new _ _)) (by omega) (by omega) (by omega) (by have := M1.grown.size; simp at this ⊢; omega) ?_; intro gt ct w3 M2; have hX3 := box_onG M2 hvo.out.1 hX2; obtain ⟨s0, s1, s2, s3, s4, s5⟩ := box6 hX3)
        | (at_builtin; refine wpList_markG hF _ rfl _ _ rfl base n 3 (mgC m) rfl hone _ rfl (M2.old.alloc _) ⟨w3.heap.size, 0, none⟩ 3 rfl (World.news_of_block (cs := #[.int .i64 (mt m), .int .i64 0, .int .i64 0, .int .i64 0, .int .i64 0, .int .i64 0, .int .i64 (mt m), .int .i64 0, .int .i64 0, .int .i64 0, .int .i64 0, .int .i64 0, .int .i64 (mt m), .int .i64 0, .int .i64 0, .int .i64 0, .int .i64 0, .int .i64 0]) (t := 295) (fr := (0, 0)) (heap_alloc_new _ _)) (by omega) (by omega) (by omega) (by have := M1.grown.size; have := M2.grown.size; simp at *; omega) ?_; intro gh ch w4 M3; obtain ⟨r0, r1, r2, r3, r4, f0, f1, f2, f3, f4⟩ := cells5 (own_blockG (by decide) hR.out M1 M2 M3 hown))
        | fail)
      have hE := own_endG (w := wr) (R := w.heap.size) (by decide) hR.out (Below.refl base wr) (by omega) hbase M1 M2 M3 hown (.slice a n cap) (.slice (some ⟨go, 0, none⟩) (n + 1) co) (.slice (some ⟨gt, 0, none⟩) (n + 2) ct) (.slice (some ⟨gh, 0, none⟩) (n + 3) ch) (.int .i64 m)
      have hE2 := own_endK (R := w.heap.size) hb.out (Nat.le_refl _) M1 M2 M3 (.slice a n cap) (.slice (some ⟨go, 0, none⟩) (n + 1) co) (.slice (some ⟨gt, 0, none⟩) (n + 2) ct) (.slice (some ⟨gh, 0, none⟩) (n + 3) ch) (.int .i64 m)
      have hblk : ∀ u ∈ [Value.slice (some ⟨go, 0, none⟩) (n + 1) co, Value.slice (some ⟨gt, 0, none⟩) (n + 2) ct, Value.slice (some ⟨gh, 0, none⟩) (n + 3) ch], ∀ g, u.ownBlock = some g → base ≤ g := by
        intro u hu g hg
        rcases List.mem_cons.1 hu with rfl | hu
        · exact (M1.new.lt g hg).1
        · rcases List.mem_cons.1 hu with rfl | hu
          · exact (M2.new.lt g hg).1
          · simp at hu
            subst hu
            exact (M3.new.lt g hg).1
      refine bodyPost_ret (v := .agg #[.slice a n cap, .slice (some ⟨go, 0, none⟩) (n + 1) co, .slice (some ⟨gt, 0, none⟩) (n + 2) ct, .slice (some ⟨gh, 0, none⟩) (n + 3) ch, .int .i64 m]) (by simp [results, Tryz.results201, go_sem, r0, r1, r2, r3, r4]) rfl ⟨_, _, _, rfl, hE.1, hE2, hblk⟩
end Go.Proofs.YtpdoacfiiledcaaGreatDoor.Own

namespace Go.Proofs.YtpdoacfiiledcaaGreatDoor.Own
open Go.RowKit Go.Proofs.YtpdoacfiiledcaaGreatDoor Go.Proofs.YtpdoacfiiledcaaGreatDoor.Spl
set_option linter.unusedVariables false

set_option maxHeartbeats 1000000 in
set_option maxRecDepth 100000 in
theorem allG_any (n m : Nat) (u : Value) (w : World) (hm : m ≤ 4611686018427387904) (hn : n ≤ 2000000000) (h : MkG 295 w u n (mgC m)) :
    Calls Tryz.prog 122 #[u, .int .i64 m] w fun e w' => e = .returned (.bool true) ∧ Below w.heap.size w w' := by
  have q1 := mt_wrap m hm
  obtain ⟨a, cap, rfl, hc⟩ := h
  have HC := hide hc
  clear hc
  go_enter Tryz.func122, Tryz.ntmps122
  go_wp2_with fail
  go_loopw [5] (fun i wr => ∃ k : Nat, k ≤ n ∧ i = .int .i64 k ∧ Below w.heap.size w wr) (fun i _ => n - (intOf i).toNat)
  case atStart => exact ⟨0, Nat.zero_le _, rfl, Below.refl _ _⟩
  case round =>
    obtain ⟨k, hk, rfl, hb⟩ := hrel
    by_cases hlt : k < n
    · obtain ⟨g, rfl, ⟨cs, fz, hh⟩, hcell⟩ := HC.out (by omega)
      have hg := lt_of_heap hh
      have p0 : wr.cell? ⟨g, k * 6, none⟩ = some (.int .i64 (mt m)) := by
        rw [hb.cell (p := ⟨g, k * 6, none⟩) hg, hcell (k * 6) (by simp; omega)]
        have := repG_at (mgC m) n k 0 hlt (by simp)
        simpa using this
      have p1 : wr.cell? ⟨g, k * 6 + 1, none⟩ = some (.int .i64 0) := by
        rw [hb.cell (p := ⟨g, k * 6 + 1, none⟩) hg, hcell (k * 6 + 1) (by simp; omega)]
        have := repG_at (mgC m) n k 1 hlt (by simp)
        simpa using this
      have p5 : wr.cell? ⟨g, k * 6 + 5, none⟩ = some (.int .i64 0) := by
        rw [hb.cell (p := ⟨g, k * 6 + 5, none⟩) hg, hcell (k * 6 + 5) (by simp; omega)]
        have := repG_at (mgC m) n k 5 hlt (by simp)
        simpa using this
      have h3 : (k : Int) < (n : Int) := by omega
      have h4 : (0 : Int) ≤ (k : Int) := by omega
      have HB := hide hb
      clear hcell HC hh hb
      go_wp2_with fail
      exact ⟨⟨k + 1, by omega, by go_num, HB.out⟩, by simp [intOf]; omega⟩
    · go_wp2_with fail
      go_ret
      exact ⟨rfl, hb⟩

set_option maxHeartbeats 1000000 in
set_option maxRecDepth 100000 in
theorem stillG_any (n m : Nat) (l o t h : Value) (w : World) (hm : m ≤ 4611686018427387904) (hn : n ≤ 1000000000) (hk : KeptG 295 w l o t h n (mgC m)) :
    Calls Tryz.prog 51 #[.agg #[l, o, t, h, .int .i64 m]] w fun e w' => e = .returned (.bool true) ∧ Below w.heap.size w w' := by
  have hb0 : Below w.heap.size w (w.alloc (.cells #[l, o, t, h, .int .i64 m] 117)) := (Below.refl _ _).alloc (Nat.le_refl _) _
  have hk0 := hide (hk.later hb0)
  obtain ⟨a1, c1, rfl, _⟩ := hk.fa
  obtain ⟨a2, c2, rfl, _⟩ := hk.fb
  obtain ⟨a3, c3, rfl, _⟩ := hk.fc
  obtain ⟨a4, c4, rfl, _⟩ := hk.fd
  have HB := hide hb0
  clear hk hb0
  go_enter Tryz.func51, Tryz.ntmps51
  go_wp2_with fail
  refine (allG_any n m _ _ hm (by omega) hk0.out.fa).mono ?_
  rintro e w1 ⟨rfl, hb1⟩
  rw [World.size_alloc] at hb1
  have hz1 : w.heap.size + 1 ≤ w1.heap.size := by simpa using hb1.size
  have d1 := box5 (j := 1) rfl hb1
  have d4 := box5 (j := 4) rfl hb1
  have hk1 := hide (hk0.out.later (hb1.mono (by simp)))
  go_wp2_with fail
  refine (allG_any (n + 1) m _ _ hm (by omega) hk1.out.fb).mono ?_
  rintro e w2 ⟨rfl, hb2⟩
  have hz2 := hb2.size
  have hb2' := hb1.trans (hb2.mono hz1)
  have e2 := box5 (j := 2) rfl hb2'
  have e4 := box5 (j := 4) rfl hb2'
  have hk2 := hide (hk1.out.later hb2)
  clear d1 d4 hb2
  go_wp2_with fail
  refine (allG_any (n + 2) m _ _ hm (by omega) hk2.out.fc).mono ?_
  rintro e w3 ⟨rfl, hb3⟩
  have hz3 := hb3.size
  have hb3' := hb2'.trans (hb3.mono (by omega))
  have f3 := box5 (j := 3) rfl hb3'
  have f4 := box5 (j := 4) rfl hb3'
  have hk3 := hide (hk2.out.later hb3)
  clear e2 e4 hb3
  go_wp2_with fail
  refine (allG_any (n + 3) m _ _ hm (by omega) hk3.out.fd).mono ?_
  rintro e w4 ⟨rfl, hb4⟩
  have hz4 := hb4.size
  go_wp2_with fail
  go_ret
  exact ⟨rfl, (HB.out.trans (hb3'.mono (by omega))).trans (hb4.mono (by omega))⟩
end Go.Proofs.YtpdoacfiiledcaaGreatDoor.Own

set_option linter.unusedVariables false
set_option linter.unusedSimpArgs false
namespace Go.Proofs.YtpdoacfiiledcaaGreatDoor.Pak
open Go.RowKit Go.Proofs.YtpdoacfiiledcaaGreatDoor Go.Proofs.YtpdoacfiiledcaaGreatDoor.Spl SiftM

/-- A pair of indexes: its block, theirs, what they own, what they are. -/
structure PrS where
  p : Nat
  X : Nat
  Y : Nat
  Ox : List Nat
  Oy : List Nat
  sp : PSt
  sr : RSt
/-- The pair i, where c tells whose a block is. -/
structure PairIs (w : World) (B : Nat) (c : Nat → Nat) (i K : Nat) (q : PrS) : Prop where
  blk : w.heap[q.p]? = some (.cells #[.pointer (some ⟨q.X, 0, none⟩), .pointer (some ⟨q.Y, 0, none⟩)] 105 (0, 0))
  px : PIs w q.X B q.Ox q.sp
  ry : RIs w q.Y B q.Oy q.sr
  same : q.sp.abs = q.sr.abs.srt
  room : q.sr.abs.T.length < q.sr.abs.buf
  next : q.sr.abs.next ≤ K
  cx : ∀ g ∈ q.Ox, c g = 2 * i + 2 ∧ g < w.heap.size
  cy : ∀ g ∈ q.Oy, c g = 2 * i + 3 ∧ g < w.heap.size
  cp : c q.p = 0
def prV (Q : List PrS) : List Value := Q.map fun q => Value.pointer (some ⟨q.p, 0, none⟩)
/-- The law's world at P: the pairs, and the lists of segments that came out. -/
structure SW (w : World) (P B K : Nat) (c : Nat → Nat) (psv sv : Value) (Q : List PrS) (F : List Own.E1) : Prop where
  blk : w.heap[P]? = some (.cells #[psv, .slice none 0 0, .slice none 0 0, .slice none 0 0, sv, .slice none 0 0] 64 (0, 0))
  pos : 0 < B
  low : B ≤ w.heap.size
  ps : w.ownsRow B 100 1 psv Q.length (prV Q)
  prs : ∀ i (h : i < Q.length), PairIs w B c i K Q[i]
  segs : w.ownsRow B 117 5 sv F.length (rowV F)
  kept : ∀ i x, F[i]? = some x → Own.K4 w x i
  cB : ∀ g, g < B → c g = 0
  cP : c P = 0
  cps : ∀ g, psv.ownBlock = some g → c g = 0
  csv : ∀ g, sv.ownBlock = some g → c g = 1
  cls : ∀ x ∈ F, ∀ u ∈ [x.l, x.o, x.t, x.h], ∀ g, u.ownBlock = some g → c g = 1 ∧ g < w.heap.size
  nq : Q.length ≤ K + 1
  nf : F.length ≤ K
  tab : Tab64 w
/-- The blocks from n on are k's. -/
def recol (c : Nat → Nat) (n k : Nat) : Nat → Nat := fun g => if g < n then c g else k
theorem recol_old {c : Nat → Nat} {n k g : Nat} (h : g < n) : recol c n k g = c g := if_pos h
theorem recol_new {c : Nat → Nat} {n k g : Nat} (h : n ≤ g) : recol c n k g = k := if_neg (by omega)
theorem K4.kp {S : List Nat} {w w' : World} {x : Own.E1} {i : Nat} (h : Own.K4 w x i) (k : Kp S w w') (hS : ∀ u ∈ [x.l, x.o, x.t, x.h], ∀ g, u.ownBlock = some g → g ∉ S) : Own.K4 w' x i := by
  obtain ⟨⟨f1, f2, f3, f4⟩, hn⟩ := h
  have one : ∀ {u : Value} {n : Nat}, u ∈ [x.l, x.o, x.t, x.h] → Own.MkG 295 w u n [.int .i64 (Own.mt i), .int .i64 0, .int .i64 0, .int .i64 0, .int .i64 0, .int .i64 0] → Own.MkG 295 w' u n [.int .i64 (Own.mt i), .int .i64 0, .int .i64 0, .int .i64 0, .int .i64 0, .int .i64 0] :=
    fun hu hm => hm.blocks fun g cs fz hg hh => k.block g (heap_lt hh) (hS _ hu g hg)
  exact ⟨⟨one (by simp) f1, one (by simp) f2, one (by simp) f3, one (by simp) f4⟩, hn⟩
/-- What a step on pair i leaves. -/
theorem SW.moved {w w1 w2 : World} {P B K : Nat} {c : Nat → Nat} {psv sv : Value} {Q : List PrS} {F : List Own.E1} (h : SW w P B K c psv sv Q F) {i : Nat} (hi : i < Q.length) {sp' : PSt} {sr' : RSt}
    (k1 : Kp Q[i].Ox w w1) (hp : PIs w1 Q[i].X B (grow Q[i].Ox w w1) sp') (k2 : Kp Q[i].Oy w1 w2) (hr : RIs w2 Q[i].Y B (grow Q[i].Oy w1 w2) sr') (hs : sp'.abs = sr'.abs.srt) (hroom : sr'.abs.T.length < sr'.abs.buf) (hnx : sr'.abs.next ≤ K + 1) :
    ∃ c' Q', SW w2 P B (K + 1) c' psv sv Q' F := by
  have hq := h.prs i hi
  have hz1 := k1.size
  have hz2 := k2.size
  have k12 : Kp (Q[i].Ox ++ Q[i].Oy) w w2 := (k1.mono (by simp +contextual)).next (k2.mono (by simp +contextual))
  obtain ⟨c', hc'⟩ : ∃ c', c' = recol (recol c w.heap.size (2 * i + 2)) w1.heap.size (2 * i + 3) := ⟨_, rfl⟩
  have old : ∀ g, g < w.heap.size → c' g = c g := fun g hg => by rw [hc', recol_old (by omega), recol_old hg]
  have off : ∀ g, c g ≠ 2 * i + 2 → c g ≠ 2 * i + 3 → g ∉ Q[i].Ox ++ Q[i].Oy := fun g h1 h2 hx => by
    rcases List.mem_append.1 hx with hx | hx
    · exact h1 (hq.cx g hx).1
    · exact h2 (hq.cy g hx).1
  have hPlt := heap_lt h.blk
  have hpl : ∀ g, psv.ownBlock = some g → g < w.heap.size := fun g hg => (h.ps.lt g hg).2
  have hsl : ∀ g, sv.ownBlock = some g → g < w.heap.size := fun g hg => (h.segs.lt g hg).2
  obtain ⟨q', hq'⟩ : ∃ q' : PrS, q' = { Q[i] with Ox := grow Q[i].Ox w w1, Oy := grow Q[i].Oy w1 w2, sp := sp', sr := sr' } := ⟨_, rfl⟩
  have hprV : prV (Q.set i q') = prV Q := by
    unfold prV
    rw [List.map_set]
    have e : (Value.pointer (some ⟨q'.p, 0, none⟩)) = (Q.map fun q => Value.pointer (some ⟨q.p, 0, none⟩))[i]'(by simpa using hi) := by simp [hq']
    rw [e, List.set_getElem_self]
  refine ⟨c', Q.set i q', ?_⟩
  refine ⟨k12.heap h.blk (off P (by rw [h.cP]; omega) (by rw [h.cP]; omega)), h.pos, Nat.le_trans h.low k12.size, ?_, ?_, ?_, ?_, ?_, ?_, ?_, ?_, ?_, ?_, ?_, ?_⟩
  · rw [hprV, List.length_set]
    exact k12.owns h.ps fun g hg => off g (by rw [h.cps g hg]; omega) (by rw [h.cps g hg]; omega)
  · intro j hj
    rw [List.length_set] at hj
    by_cases e : i = j
    · subst e
      rw [List.getElem_set_self, hq']
      refine ⟨k12.heap hq.blk (off _ (by rw [hq.cp]; omega) (by rw [hq.cp]; omega)), hp.kp k2 fun x hx hy => ?_, hr, hs, hroom, hnx, fun g hg => ?_, fun g hg => ?_, ?_⟩
      · have hcx := hq.cy x hx
        rcases mem_grow.1 hy with h1 | h1
        · have := (hq.cx x h1).1; omega
        · omega
      · rcases mem_grow.1 hg with h1 | h1
        · have := hq.cx g h1
          exact ⟨by rw [old g this.2]; exact this.1, by omega⟩
        · exact ⟨by rw [hc', recol_old h1.2, recol_new h1.1], by omega⟩
      · rcases mem_grow.1 hg with h1 | h1
        · have := hq.cy g h1
          exact ⟨by rw [old g this.2]; exact this.1, by omega⟩
        · exact ⟨by rw [hc', recol_new h1.1], h1.2⟩
      · rw [old _ (heap_lt hq.blk)]; exact hq.cp
    · rw [List.getElem_set_ne e]
      have hj' := h.prs j hj
      refine ⟨k12.heap hj'.blk (off _ (by rw [hj'.cp]; omega) (by rw [hj'.cp]; omega)), hj'.px.kp k12 fun x hx hy => ?_, hj'.ry.kp k12 fun x hx hy => ?_, hj'.same, hj'.room, Nat.le_succ_of_le hj'.next, fun g hg => ?_, fun g hg => ?_, ?_⟩
      · have h1 := (hj'.cx x hy).1
        exact off x (by omega) (by omega) hx
      · have h1 := (hj'.cy x hy).1
        exact off x (by omega) (by omega) hx
      · have := hj'.cx g hg
        exact ⟨by rw [old g this.2]; exact this.1, by omega⟩
      · have := hj'.cy g hg
        exact ⟨by rw [old g this.2]; exact this.1, by omega⟩
      · rw [old _ (heap_lt hj'.blk)]; exact hj'.cp
  · exact k12.owns h.segs fun g hg => off g (by rw [h.csv g hg]; omega) (by rw [h.csv g hg]; omega)
  · intro j x hx
    refine K4.kp (h.kept j x hx) k12 fun u hu g hg => ?_
    have := (h.cls x (List.mem_of_getElem? hx) u hu g hg).1
    exact off g (by omega) (by omega)
  · intro g hg
    have := h.low
    rw [old g (by omega)]; exact h.cB g hg
  · rw [old P hPlt]; exact h.cP
  · intro g hg; rw [old g (hpl g hg)]; exact h.cps g hg
  · intro g hg; rw [old g (hsl g hg)]; exact h.csv g hg
  · intro x hx u hu g hg
    have := h.cls x hx u hu g hg
    exact ⟨by rw [old g this.2]; exact this.1, by omega⟩
  · rw [List.length_set]; have := h.nq; omega
  · have := h.nf; omega
  · exact h.tab.kp k12 (off 0 (by rw [h.cB 0 h.pos]; omega) (by rw [h.cB 0 h.pos]; omega))
/-- What is made beside it leaves the law's world as it is. -/
theorem SW.kp0 {w w' : World} {P B K : Nat} {c : Nat → Nat} {psv sv : Value} {Q : List PrS} {F : List Own.E1} (h : SW w P B K c psv sv Q F) (k : Kp [] w w') : SW w' P B K c psv sv Q F := by
  have hz := k.size
  refine ⟨k.heap h.blk (by simp), h.pos, Nat.le_trans h.low k.size, k.owns h.ps (by simp), fun i hi => ?_, k.owns h.segs (by simp), fun i x hx => K4.kp (h.kept i x hx) k (by simp), h.cB, h.cP, h.cps, h.csv, fun x hx u hu g hg => ⟨(h.cls x hx u hu g hg).1, Nat.lt_of_lt_of_le (h.cls x hx u hu g hg).2 hz⟩, h.nq, h.nf, h.tab.kp k (by simp)⟩
  have q := h.prs i hi
  exact ⟨k.heap q.blk (by simp), q.px.kp k (by simp), q.ry.kp k (by simp), q.same, q.room, q.next, fun g hg => ⟨(q.cx g hg).1, Nat.lt_of_lt_of_le (q.cx g hg).2 hz⟩, fun g hg => ⟨(q.cy g hg).1, Nat.lt_of_lt_of_le (q.cy g hg).2 hz⟩, q.cp⟩
theorem SW.up {w : World} {P B K : Nat} {c : Nat → Nat} {psv sv : Value} {Q : List PrS} {F : List Own.E1} (h : SW w P B K c psv sv Q F) : SW w P B (K + 1) c psv sv Q F :=
  ⟨h.blk, h.pos, h.low, h.ps, fun i hi => ⟨(h.prs i hi).blk, (h.prs i hi).px, (h.prs i hi).ry, (h.prs i hi).same, (h.prs i hi).room, Nat.le_succ_of_le (h.prs i hi).next, (h.prs i hi).cx, (h.prs i hi).cy, (h.prs i hi).cp⟩, h.segs, h.kept, h.cB, h.cP, h.cps, h.csv, h.cls, Nat.le_succ_of_le h.nq, Nat.le_succ_of_le h.nf, h.tab⟩
/-- What the program's half of a step leaves to the document's. -/
theorem SW.half {w w1 : World} {P B K : Nat} {c : Nat → Nat} {psv sv : Value} {Q : List PrS} {F : List Own.E1} (h : SW w P B K c psv sv Q F) {i : Nat} (hi : i < Q.length) (k1 : Kp Q[i].Ox w w1) : RIs w1 Q[i].Y B Q[i].Oy Q[i].sr ∧ w1.heap[Q[i].p]? = some (.cells #[.pointer (some ⟨Q[i].X, 0, none⟩), .pointer (some ⟨Q[i].Y, 0, none⟩)] 105 (0, 0)) ∧ Below B w w1 := by
  have q := h.prs i hi
  refine ⟨q.ry.kp k1 fun x hx hy => ?_, k1.heap q.blk fun hx => ?_, k1.below h.low fun x hx => ?_⟩
  · have h1 := (q.cx x hx).1
    have h2 := (q.cy x hy).1
    omega
  · have h1 := (q.cx _ hx).1
    have h2 := q.cp
    omega
  · rcases Nat.lt_or_ge x B with h1 | h1
    · have h2 := h.cB x h1
      have h3 := (q.cx x hx).1
      omega
    · exact h1
theorem SW.below2 {w w1 w2 : World} {P B K : Nat} {c : Nat → Nat} {psv sv : Value} {Q : List PrS} {F : List Own.E1} (h : SW w P B K c psv sv Q F) {i : Nat} (hi : i < Q.length) (k2 : Kp Q[i].Oy w1 w2) (hz : B ≤ w1.heap.size) : Below B w1 w2 := by
  have q := h.prs i hi
  refine k2.below hz fun x hx => ?_
  rcases Nat.lt_or_ge x B with h1 | h1
  · have h2 := h.cB x h1
    have h3 := (q.cy x hx).1
    omega
  · exact h1
/-- What a call on the program's index may ask. -/
theorem SW.asks {w : World} {P B K : Nat} {c : Nat → Nat} {psv sv : Value} {Q : List PrS} {F : List Own.E1} (h : SW w P B K c psv sv Q F) {i : Nat} (hi : i < Q.length) (hK : K < 1000000) : (∀ g ∈ Q[i].Ox, g < w.heap.size) ∧ 0 ∉ Q[i].Ox ∧ Q[i].sp.next < 1000000 ∧ Q[i].sp.G.length < Q[i].sp.buf ∧ Q[i].sr.next < 1000000 := by
  have q := h.prs i hi
  have e1 : Q[i].sp.next = Q[i].sr.abs.next := congrArg DSt.next q.same
  have e2 : Q[i].sp.buf = Q[i].sr.abs.buf := congrArg DSt.buf q.same
  have e3 : Q[i].sp.G = sortX Q[i].sr.abs.T := congrArg DSt.T q.same
  have e4 : Q[i].sr.next = Q[i].sr.abs.next := rfl
  have hn := q.next
  have hr := q.room
  refine ⟨fun g hg => (q.cx g hg).2, fun h0 => ?_, by omega, by rw [e3, (sortX_perm _).length_eq]; omega, by omega⟩
  have h1 := (q.cx 0 h0).1
  have h2 := h.cB 0 h.pos
  omega
end Go.Proofs.YtpdoacfiiledcaaGreatDoor.Pak

