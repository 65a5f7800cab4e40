import Derived.Test.YtpdoacfiiledcaaGreatDoorV04
import Derived.Test.YtpdoacfiiledcaaGreatDoorV01
namespace Go.Proofs.YtpdoacfiiledcaaGreatDoor.Own
open Go.RowKit Go.Proofs.YtpdoacfiiledcaaGreatDoor Go.Proofs.YtpdoacfiiledcaaGreatDoor.Spl
set_option linter.unusedVariables false

abbrev Kp := Go.Proofs.YtpdoacfiiledcaaGreatDoor.Pak.Kp

/-- What the three appends and the store of the result turn. -/
theorem own_endK {e : TypeId} {w W w2 w3 w4 : World} {base n R : Nat} {c : List Value} {v o t h : Value} {o1 o2 o3 : Obj} (hb : Kp v.ownBlock.toList w W) (hRb : w.heap.size ≤ R)
    (M1 : MarkedG e (W.alloc o1) w2 base n 1 c v o) (M2 : MarkedG e (w2.alloc o2) w3 base n 2 c v t) (M3 : MarkedG e (w3.alloc o3) w4 base n 3 c v h) (x0 x1 x2 x3 x4 : Value) :
    Kp v.ownBlock.toList w (((((w4.setCell ⟨R, 0, none⟩ x0).setCell ⟨R, 1, none⟩ x1).setCell ⟨R, 2, none⟩ x2).setCell ⟨R, 3, none⟩ x3).setCell ⟨R, 4, none⟩ x4) := by
  have g : ∀ k, v.ownBlock = some k → k ∈ v.ownBlock.toList ∨ w.heap.size ≤ k := fun k hk => .inl (by simp [hk])
  have b3 := (((((hb.alloc o1).grown M1.grown g).alloc o2).grown M2.grown g).alloc o3).grown M3.grown g
  exact ((((b3.setCell (p := ⟨R, 0, none⟩) (.inr hRb) x0).setCell (p := ⟨R, 1, none⟩) (.inr hRb) x1).setCell (p := ⟨R, 2, none⟩) (.inr hRb) x2).setCell (p := ⟨R, 3, none⟩) (.inr hRb) x3).setCell (p := ⟨R, 4, none⟩) (.inr hRb) x4

theorem Tryz.info226o : (Tryz.prog.info? 226).map (fun i => (i.zero, i.size, i.bytes)) = some (some (.agg #[.int .i64 0, .slice none 0 0]), 2, 32) := by kernel_rfl
theorem fam194 : ∃ i0, Fam 78 226 2 32 i0 (.agg #[.int .i64 0, .slice none 0 0]) := by
  obtain ⟨i0, hi, hz0, hz1, hz2⟩ := info_parts Tryz.info226o
  exact ⟨i0, Tryz.underlying78, hi, hz0, hz1, hz2, rfl, by omega⟩
/-- The mark of a list of texts. -/
def mt (m : Nat) : Int := -1000 - (m : Int)
abbrev mtC (m : Nat) : List Value := [.int .i64 (mt m), .slice none 0 0]
theorem mt_wrap (m : Nat) (h : m ≤ 4611686018427387904) : IntKind.i64.wrap (-1000 - (m : Int)) = mt m := by
  unfold mt
  exact IntWalk.i64_in _ ⟨by omega, by omega⟩

theorem mark2 (x y : Value) (n j : Nat) (ws : List Value) (hw : ws.length = n * 2) (hj : j < n) : ((repG [x, y] j ++ ws.drop (j * 2)).set (j * 2) x).set (j * 2 + 1) y = repG [x, y] (j + 1) ++ ws.drop ((j + 1) * 2) := by
  have hl : (repG [x, y] j).length = j * 2 := by rw [repG_len]; simp
  have h1 : ws.drop (j * 2) = ws[j * 2] :: ws[j * 2 + 1] :: ws.drop ((j + 1) * 2) := by
    rw [List.drop_eq_getElem_cons (by omega), List.drop_eq_getElem_cons (by omega)]
    rw [show j * 2 + 1 + 1 = (j + 1) * 2 by omega]
  rw [h1, List.set_append_right _ _ (by rw [hl]; omega), hl, Nat.sub_self, List.set_cons_zero, List.set_append_right _ _ (by rw [hl]; omega), hl, show j * 2 + 1 - j * 2 = 1 by omega, List.set_cons_succ, List.set_cons_zero, ← repG_add]
  simp [repG]

/-- A box that is no part of the row stays, behind an append of marks. -/
theorem box_onG {e T : TypeId} {W w2 : World} {base n k X : Nat} {c : List Value} {v v' : Value} {o : Obj} {cs : Array Value} (M : MarkedG e (W.alloc o) w2 base n k c v v') (hne : v.ownBlock ≠ some X) (hX : W.heap[X]? = some (.cells cs T (0, 0))) : w2.heap[X]? = some (.cells cs T (0, 0)) := by
  have hlt := lt_of_heap hX
  rw [M.grown.block X (by simp; omega) hne.symm, Below.heap_alloc _ _ _ hlt]
  exact hX
theorem box2 {w : World} {X : Nat} {x y : Value} {T : TypeId} (h : w.heap[X]? = some (.cells #[x, y] T (0, 0))) : w.cell? ⟨X, 0, none⟩ = some x ∧ w.cell? ⟨X, 1, none⟩ = some y := by
  simp [World.cell?, h]

set_option maxHeartbeats 2000000 in
set_option maxRecDepth 100000 in
theorem ownT_any (base n m : Nat) (v : Value) (ws : List Value) (w : World) (hm : m ≤ 4611686018427387904) (hbase : base ≤ w.heap.size) (hn : n ≤ 1000000000) (hown0 : w.ownsRow base 226 2 v n ws) :
    Calls Tryz.prog 185 #[v, .int .i64 m] w fun e w' => ∃ o t h, e = .returned (.agg #[v, o, t, h, .int .i64 m]) ∧ KeptG 226 w' v o t h n (mtC m) ∧ Kp v.ownBlock.toList w w' := by
  obtain ⟨i0, hF⟩ := fam194
  have q1 := mt_wrap m hm
  have hone : ∀ u ∈ mtC m, u.oneCell' = true := by intro u hu; simp at hu; rcases hu with rfl | rfl <;> rfl
  obtain ⟨a, cap, rfl, hsome⟩ := owns_forms hown0
  have hws : Hid (ws.length = n * 2) := hown0.1
  have hgl : Hid (∀ g, a = some ⟨g, 0, none⟩ → base ≤ g ∧ g < w.heap.size) := fun g hg => by subst hg; exact ⟨(hown0.lt g rfl).1, (hown0.lt g rfl).2⟩
  have hvo : Hid ((Value.slice a n cap).ownBlock ≠ some (w.heap.size + 1) ∧ (Value.slice a n cap).ownBlock ≠ some w.heap.size) := ⟨fun hh => by have := (hown0.lt _ hh).2; omega, fun hh => by have := (hown0.lt _ hh).2; omega⟩
  have hso := hide hsome
  have HO0 := hide hown0
  clear hown0 hsome
  go_enter Tryz.func185, Tryz.ntmps185
  go_wp2_with fail
  obtain ⟨W, hW⟩ : ∃ W, (w.alloc (.cells #[.slice none 0 0, .slice none 0 0, .slice none 0 0, .slice none 0 0, .int .i64 0] 119)).alloc (.cells #[.int .i64 (mt m), .slice none 0 0] 226) = W := ⟨_, rfl⟩
  have hR : Hid (W.heap[w.heap.size]? = some (.cells zero5 119 (0, 0))) := by
    show _ = _
    rw [← hW, Below.heap_alloc _ _ _ (by simp)]; exact heap_alloc_new w _
  have hX : Hid (W.heap[w.heap.size + 1]? = some (.cells #[.int .i64 (mt m), .slice none 0 0] 226 (0, 0))) := by
    show _ = _
    rw [← hW]
    have := heap_alloc_new (w.alloc (.cells #[.slice none 0 0, .slice none 0 0, .slice none 0 0, .slice none 0 0, .int .i64 0] 119)) (.cells #[.int .i64 (mt m), .slice none 0 0] 226)
    rw [World.size_alloc] at this
    exact this
  have hown1 : Hid (W.ownsRow base 226 2 (.slice a n cap) n ws) := by show World.ownsRow _ _ _ _ _ _ _; rw [← hW]; exact (HO0.out.alloc _).alloc _
  have hb0 : Hid (Kp (Value.slice a n cap).ownBlock.toList w W) := by show Kp _ _ _; rw [← hW]; exact ((Pak.Kp.refl _ _).alloc _).alloc _
  have hbW : w.heap.size + 2 ≤ W.heap.size := by rw [← hW]; simp
  rw [hW]
  clear hW HO0
  go_loopw [6] (fun i wr => ∃ j : Nat, j ≤ n ∧ i = .int .i64 j ∧ Hid (wr.ownsRow base 226 2 (.slice a n cap) n (repG (mtC m) j ++ ws.drop (j * 2))) ∧ Hid (wr.heap[w.heap.size]? = some (.cells zero5 119 (0, 0))) ∧ Hid (wr.heap[w.heap.size + 1]? = some (.cells #[.int .i64 (mt m), .slice none 0 0] 226 (0, 0))) ∧ Hid (Kp (Value.slice a n cap).ownBlock.toList w wr) ∧ w.heap.size + 2 ≤ wr.heap.size) (fun i _ => n - (intOf i).toNat)
  case atStart => exact ⟨0, Nat.zero_le _, rfl, by simpa [repG] using hown1, hR, hX, hb0, hbW⟩
  case round =>
    clear hown1 hR hX hb0 hbW
    obtain ⟨j, hj, rfl, hown, hR, hX, hb, hz⟩ := hrel
    by_cases hlt : j < n
    · obtain ⟨g, rfl⟩ := hso.out (by omega)
      have hg1 := (hgl.out g rfl).1
      have hg2 := (hgl.out g rfl).2
      have h1 : (j : Int) < (n : Int) := by omega
      have h0 : (0 : Int) ≤ (j : Int) := by omega
      obtain ⟨y0, y1⟩ := box2 hX.out
      have hl : (repG (mtC m) j ++ ws.drop (j * 2)).length = n * 2 := by rw [List.length_append, repG_len, List.length_drop, hws.out]; simp; omega
      obtain ⟨x0, hx0⟩ : ∃ x, wr.cell? ⟨g, j * 2, none⟩ = some x := ⟨_, by rw [hown.out.cellAt (j * 2) (by omega), List.getElem?_eq_getElem (by omega)]⟩
      obtain ⟨x1, hx1⟩ : ∃ x, wr.cell? ⟨g, j * 2 + 1, none⟩ = some x := ⟨_, by rw [hown.out.cellAt (j * 2 + 1) (by omega), List.getElem?_eq_getElem (by omega)]⟩
      have hf0 : wr.frozen? ⟨g, j * 2, none⟩ = false := hown.out.frozenAt (j * 2)
      have hf1 : wr.frozen? ⟨g, j * 2 + 1, none⟩ = false := hown.out.frozenAt (j * 2 + 1)
      have hst := hide (((hown.out.stored (j * 2) (.int .i64 (mt m))).1).stored (j * 2 + 1) (.slice none 0 0)).1
      have hmk := hide (mark2 (.int .i64 (mt m)) (.slice none 0 0) n j ws hws.out hlt)
      clear hl
      go_wp2_with fail
      go_roundw
      case rel =>
        refine ⟨j + 1, by omega, by go_num, ?_, ?_, ?_, (hb.out.setCell (p := ⟨g, j * 2, none⟩) (.inl (by simp [Value.ownBlock])) _).setCell (p := ⟨g, j * 2 + 1, none⟩) (.inl (by simp [Value.ownBlock])) _, by simpa using hz⟩
        · show World.ownsRow _ _ _ _ _ _ _
          have := hst.out; rw [hmk.out] at this; exact this
        · show _ = _
          rw [Below.heap_setCell _ _ _ _ (show w.heap.size ≠ g by omega), Below.heap_setCell _ _ _ _ (show w.heap.size ≠ g by omega)]; exact hR.out
        · show _ = _
          rw [Below.heap_setCell _ _ _ _ (show w.heap.size + 1 ≠ g by omega), Below.heap_setCell _ _ _ _ (show w.heap.size + 1 ≠ g by omega)]; exact hX.out
      case measure => simp [intOf]; omega
    · have hjn : n = j := by omega
      subst hjn
      have hown2 := hown.out
      rw [List.drop_of_length_le (by rw [hws.out]; exact Nat.le_refl _), List.append_nil] at hown2
      replace hown := hown2
      clear hown2
      have hbr : base ≤ wr.heap.size := by omega
      have HZ := hide hz
      obtain ⟨y0, y1⟩ := box2 hX.out
      clear hz
      go_wp2_with (first
        | (at_builtin; refine wpList_markG hF _ rfl _ _ rfl base n 1 (mtC m) rfl hone _ rfl (hown.alloc _) ⟨wr.heap.size, 0, none⟩ 1 rfl (World.news_of_block (cs := #[.int .i64 (mt m), .slice none 0 0]) (t := 226) (fr := (0, 0)) (heap_alloc_new _ _)) (by omega) (by omega) (by omega) (by simp; omega) ?_; intro go co w2 M1; have hX2 := box_onG M1 hvo.out.1 hX.out; obtain ⟨z0, z1⟩ := box2 hX2)
        | (at_builtin; refine wpList_markG hF _ rfl _ _ rfl base n 2 (mtC m) rfl hone _ rfl (M1.old.alloc _) ⟨w2.heap.size, 0, none⟩ 2 rfl (World.news_of_block (cs := #[.int .i64 (mt m), .slice none 0 0, .int .i64 (mt m), .slice none 0 0]) (t := 226) (fr := (0, 0)) (heap_alloc_new _ _)) (by omega) (by omega) (by omega) (by have := M1.grown.size; simp at this ⊢; omega) ?_; intro gt ct w3 M2; have hX3 := box_onG M2 hvo.out.1 hX2; obtain ⟨s0, s1⟩ := box2 hX3)
        | (at_builtin; refine wpList_markG hF _ rfl _ _ rfl base n 3 (mtC m) rfl hone _ rfl (M2.old.alloc _) ⟨w3.heap.size, 0, none⟩ 3 rfl (World.news_of_block (cs := #[.int .i64 (mt m), .slice none 0 0, .int .i64 (mt m), .slice none 0 0, .int .i64 (mt m), .slice none 0 0]) (t := 226) (fr := (0, 0)) (heap_alloc_new _ _)) (by omega) (by omega) (by omega) (by have := M1.grown.size; have := M2.grown.size; simp at *; omega) ?_; intro gh ch w4 M3; obtain ⟨r0, r1, r2, r3, r4, f0, f1, f2, f3, f4⟩ := cells5 (own_blockG (by decide) hR.out M1 M2 M3 hown))
        | fail)
      have hE := own_endG (w := wr) (R := w.heap.size) (by decide) hR.out (Below.refl base wr) (by omega) hbase M1 M2 M3 hown (.slice a n cap) (.slice (some ⟨go, 0, none⟩) (n + 1) co) (.slice (some ⟨gt, 0, none⟩) (n + 2) ct) (.slice (some ⟨gh, 0, none⟩) (n + 3) ch) (.int .i64 m)
      have hE2 := own_endK (R := w.heap.size) hb.out (Nat.le_refl _) M1 M2 M3 (.slice a n cap) (.slice (some ⟨go, 0, none⟩) (n + 1) co) (.slice (some ⟨gt, 0, none⟩) (n + 2) ct) (.slice (some ⟨gh, 0, none⟩) (n + 3) ch) (.int .i64 m)
      refine bodyPost_ret (v := .agg #[.slice a n cap, .slice (some ⟨go, 0, none⟩) (n + 1) co, .slice (some ⟨gt, 0, none⟩) (n + 2) ct, .slice (some ⟨gh, 0, none⟩) (n + 3) ch, .int .i64 m]) (by simp [results, Tryz.results185, go_sem, r0, r1, r2, r3, r4]) rfl ⟨_, _, _, rfl, hE.1, hE2⟩
end Go.Proofs.YtpdoacfiiledcaaGreatDoor.Own
