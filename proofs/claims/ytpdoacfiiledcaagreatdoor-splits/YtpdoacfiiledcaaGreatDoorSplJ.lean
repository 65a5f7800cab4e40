import Derived.Test.YtpdoacfiiledcaaGreatDoorSplI
namespace Go.Proofs.YtpdoacfiiledcaaGreatDoor.Spl
open Go.RowKit Go.Proofs.YtpdoacfiiledcaaGreatDoor Go.Proofs.YtpdoacfiiledcaaGreatDoor.SiftM
set_option linter.unusedVariables false

def zero59 : Array Value := #[.slice none 0 0, .slice none 0 0, .slice none 0 0, .slice none 0 0, .int .i64 0]

/-- A list over whose first entries the mark is written. -/
theorem mark_set (n m j : Nat) (ws : List Value) (hw : ws.length = n) (hj : j < n) : (rep j m ++ ws.drop j).set j (.string (tx m)) = rep (j + 1) m ++ ws.drop (j + 1) := by
  rw [List.set_append_right _ _ (by rw [rep_len]; omega), rep_len, Nat.sub_self]
  have h1 : ws.drop j = ws[j] :: ws.drop (j + 1) := List.drop_eq_getElem_cons (by omega)
  rw [h1, List.set_cons_zero, ← rep_add]
  simp [rep]

theorem owned_ne {w : World} {base R n : Nat} {v : Value} {xs : List Value} (h : w.ownsRow base 9 1 v n xs) {cs : Array Value} (hR : w.heap[R]? = some (.cells cs 111 (0, 0))) : some R ≠ v.ownBlock := by
  intro e
  rcases h.2 with ⟨rfl, _⟩ | ⟨g, cap, cur, rfl, _, hh, _⟩
  · simp [Value.ownBlock] at e
  · simp [Value.ownBlock] at e
    subst e
    rw [hR] at hh
    simp at hh

/-- The result's own block, behind an append of marks. -/
theorem res_on {W w2 : World} {base n m k R : Nat} {v v' : Value} {o : Obj} {cs : Array Value} (M : Marked (W.alloc o) w2 base n m k v v') (hown : W.ownsRow base 9 1 v n (rep n m)) (hR : W.heap[R]? = some (.cells cs 111 (0, 0))) : w2.heap[R]? = some (.cells cs 111 (0, 0)) := by
  have hlt : R < W.heap.size := by
    rcases Nat.lt_or_ge R W.heap.size with h' | h'
    · exact h'
    · rw [Array.getElem?_eq_none h'] at hR; simp at hR
  rw [M.grown.block R (by simp; omega) (owned_ne hown hR), Below.heap_alloc _ _ _ hlt]
  exact hR

theorem own_block {W w2 w3 w4 : World} {base n m R : Nat} {v o t h : Value} {o1 o2 o3 : Obj} (hR : W.heap[R]? = some (.cells zero59 111 (0, 0)))
    (M1 : Marked (W.alloc o1) w2 base n m 1 v o) (M2 : Marked (w2.alloc o2) w3 base n m 2 v t) (M3 : Marked (w3.alloc o3) w4 base n m 3 v h) (hown : W.ownsRow base 9 1 v n (rep n m)) :
    w4.heap[R]? = some (.cells zero59 111 (0, 0)) :=
  res_on M3 M2.old (res_on M2 M1.old (res_on M1 hown hR))
theorem cells59 {w : World} {R : Nat} (h : w.heap[R]? = some (.cells zero59 111 (0, 0))) :
    w.cell? ⟨R, 0, none⟩ = some (.slice none 0 0) ∧ w.cell? ⟨R, 1, none⟩ = some (.slice none 0 0) ∧ w.cell? ⟨R, 2, none⟩ = some (.slice none 0 0) ∧ w.cell? ⟨R, 3, none⟩ = some (.slice none 0 0) ∧ w.cell? ⟨R, 4, none⟩ = some (.int .i64 0) ∧
    w.frozen? ⟨R, 0, none⟩ = false ∧ w.frozen? ⟨R, 1, none⟩ = false ∧ w.frozen? ⟨R, 2, none⟩ = false ∧ w.frozen? ⟨R, 3, none⟩ = false ∧ w.frozen? ⟨R, 4, none⟩ = false := by
  simp [World.cell?, World.frozen?, h, zero59]

theorem mk_set {w : World} {R j : Nat} {x : Value} {cs : Array Value} {u : Value} {k m : Nat} (hR : w.heap[R]? = some (.cells cs 111 (0, 0))) (h : Mk w u k m) : Mk (w.setCell ⟨R, j, none⟩ x) u k m := by
  obtain ⟨a, cap, rfl, hc⟩ := h
  refine ⟨a, cap, rfl, fun hk => ?_⟩
  obtain ⟨g, rfl, ⟨c9, fz, hh⟩, hcell⟩ := hc hk
  have hne : g ≠ R := by
    intro e; subst e; rw [hR] at hh; simp at hh
  refine ⟨g, rfl, ⟨c9, fz, by rw [Below.heap_setCell _ _ _ _ hne]; exact hh⟩, fun i hi => ?_⟩
  rw [World.cell?_setCell_other _ _ _ _ (fun e => hne (congrArg Addr.block e).symm)]
  exact hcell i hi
theorem kept_set {w : World} {R j : Nat} {x : Value} {cs : Array Value} {l o t h : Value} {n m : Nat} (hR : w.heap[R]? = some (.cells cs 111 (0, 0))) (k : Kept w l o t h n m) : Kept (w.setCell ⟨R, j, none⟩ x) l o t h n m :=
  ⟨mk_set hR k.a, mk_set hR k.b, mk_set hR k.c, mk_set hR k.d, k.hn⟩
theorem res_set {w : World} {R j : Nat} {x : Value} {cs : Array Value} (hR : w.heap[R]? = some (.cells cs 111 (0, 0))) : (w.setCell ⟨R, j, none⟩ x).heap[R]? = some (.cells (cs.setIfInBounds j x) 111 (0, 0)) := heap_setCell_same w R j cs 111 x hR

/-- What the three appends and the store of the result leave. -/
theorem own_end {w W w2 w3 w4 : World} {base n m R : Nat} {v o t h : Value} {o1 o2 o3 : Obj} (hn : n ≤ 900) (hR : W.heap[R]? = some (.cells zero59 111 (0, 0))) (hb : Below base w W) (hbase : base ≤ W.heap.size) (hRb : base ≤ R)
    (M1 : Marked (W.alloc o1) w2 base n m 1 v o) (M2 : Marked (w2.alloc o2) w3 base n m 2 v t) (M3 : Marked (w3.alloc o3) w4 base n m 3 v h) (hown : W.ownsRow base 9 1 v n (rep n m)) (x0 x1 x2 x3 x4 : Value) :
    Kept (((((w4.setCell ⟨R, 0, none⟩ x0).setCell ⟨R, 1, none⟩ x1).setCell ⟨R, 2, none⟩ x2).setCell ⟨R, 3, none⟩ x3).setCell ⟨R, 4, none⟩ x4) v o t h n m ∧
    Below base w (((((w4.setCell ⟨R, 0, none⟩ x0).setCell ⟨R, 1, none⟩ x1).setCell ⟨R, 2, none⟩ x2).setCell ⟨R, 3, none⟩ x3).setCell ⟨R, 4, none⟩ x4) := by
  have hR4 := own_block hR M1 M2 M3 hown
  have al : ∀ (X : World) (ob : Obj), Below X.heap.size X (X.alloc ob) := fun X ob => (Below.refl _ _).alloc (Nat.le_refl _) ob
  have hk : Kept w4 v o t h n m := by
    refine ⟨mk_of_owns M3.old, ?_, ?_, mk_of_owns M3.new, hn⟩
    · exact M3.keep _ _ (by omega) (mk_later (M2.keep _ _ (by omega) (mk_later (mk_of_owns M1.new) (al _ _))) (al _ _))
    · exact M3.keep _ _ (by omega) (mk_later (mk_of_owns M2.new) (al _ _))
  have hz2 := M1.grown.size
  have hz3 := M2.grown.size
  simp at hz2 hz3
  have b1 : Below base w w2 := (hb.alloc hbase _).grown M1.grown (by simp; omega) (fun k hk => (hown.lt k hk).1)
  have b2 : Below base w w3 := (b1.alloc (by omega) _).grown M2.grown (by simp; omega) (fun k hk => (M1.old.lt k hk).1)
  have b3 : Below base w w4 := (b2.alloc (by omega) _).grown M3.grown (by simp; omega) (fun k hk => (M2.old.lt k hk).1)
  exact ⟨kept_set (res_set (res_set (res_set (res_set hR4)))) (kept_set (res_set (res_set (res_set hR4))) (kept_set (res_set (res_set hR4)) (kept_set (res_set hR4) (kept_set hR4 hk)))),
    ((((b3.setCell (p := ⟨R, 0, none⟩) hRb x0).setCell (p := ⟨R, 1, none⟩) hRb x1).setCell (p := ⟨R, 2, none⟩) hRb x2).setCell (p := ⟨R, 3, none⟩) hRb x3).setCell (p := ⟨R, 4, none⟩) hRb x4⟩

set_option maxHeartbeats 1000000 in
set_option maxRecDepth 100000 in
theorem own_zero (B base m : Nat) (a : Option Addr) (cap : Nat) (w : World) (hm : m ≤ 9223372036854775807) (hT : Tab B w) (hB : B ≤ base) (hbase : base ≤ w.heap.size) (hown0 : w.ownsRow base 9 1 (.slice a 0 cap) 0 (rep 0 m)) :
    Calls Tryz.prog 172 #[.slice a 0 cap, .int .i64 m] w fun e w' => ∃ o t h, e = .returned (.agg #[.slice a 0 cap, o, t, h, .int .i64 m]) ∧ Kept w' (.slice a 0 cap) o t h 0 m ∧ Below base w w' := by
  have hT0 := hide (tab_on hT (((Below.refl B w).alloc (by omega) (.cells zero59 111))))
  replace hT := hide hT
  go_enter Tryz.func172, Tryz.ntmps172
  go_wp2_with fail
  refine (text_any B m _ hm hT0.out).mono ?_
  rintro e w1 ⟨rfl, hb1⟩
  rw [World.size_alloc] at hb1
  have hz1 : w.heap.size + 1 ≤ w1.heap.size := by simpa using hb1.size
  have hb0 : Below w.heap.size w w1 := ((Below.refl _ _).alloc (Nat.le_refl _) _).trans (hb1.mono (by omega))
  have hR : w1.heap[w.heap.size]? = some (.cells zero59 111 (0, 0)) := by rw [hb1.block w.heap.size (by omega)]; exact heap_alloc_new w _
  have hown := owns_below hown0 hb0
  clear hb1 hT0 hT hown0
  replace hR := hide hR
  go_wp2_with fail
  refine wp_loop_rounds 1 ?_
  rw [rounds_succ]
  go_wp2_with (first
    | (at_builtin; refine wpList_mark _ rfl _ _ rfl base 0 m 1 _ rfl (hown.alloc _) ⟨w1.heap.size, 0, none⟩ 1 rfl (World.news_of_block (cs := #[.string (tx m)]) (t := 9) (fr := (0, 0)) (heap_alloc_new _ _)) (by omega) (by omega) (by simp; omega) ?_; intro go co w2 M1)
    | (at_builtin; refine wpList_mark _ rfl _ _ rfl base 0 m 2 _ rfl (M1.old.alloc _) ⟨w2.heap.size, 0, none⟩ 2 rfl (World.news_of_block (cs := #[.string (tx m), .string (tx m)]) (t := 9) (fr := (0, 0)) (heap_alloc_new _ _)) (by omega) (by omega) (by have := M1.grown.size; simp at this ⊢; omega) ?_; intro gt ct w3 M2)
    | (at_builtin; refine wpList_mark _ rfl _ _ rfl base 0 m 3 _ rfl (M2.old.alloc _) ⟨w3.heap.size, 0, none⟩ 3 rfl (World.news_of_block (cs := #[.string (tx m), .string (tx m), .string (tx m)]) (t := 9) (fr := (0, 0)) (heap_alloc_new _ _)) (by omega) (by omega) (by have := M1.grown.size; have := M2.grown.size; simp at *; omega) ?_; intro gh ch w4 M3; obtain ⟨r0, r1, r2, r3, r4, f0, f1, f2, f3, f4⟩ := cells59 (own_block hR.out M1 M2 M3 hown))
    | fail)
  have hE := own_end (R := w.heap.size) (by omega) hR.out (hb0.mono hbase) (by omega) hbase M1 M2 M3 hown (.slice a 0 cap) (.slice (some ⟨go, 0, none⟩) 1 co) (.slice (some ⟨gt, 0, none⟩) 2 ct) (.slice (some ⟨gh, 0, none⟩) 3 ch) (.int .i64 m)
  refine bodyPost_ret (v := .agg #[.slice a 0 cap, .slice (some ⟨go, 0, none⟩) 1 co, .slice (some ⟨gt, 0, none⟩) 2 ct, .slice (some ⟨gh, 0, none⟩) 3 ch, .int .i64 m]) (by simp [results, Tryz.results172, go_sem, r0, r1, r2, r3, r4]) rfl ⟨_, _, _, rfl, hE.1, hE.2⟩
end Go.Proofs.YtpdoacfiiledcaaGreatDoor.Spl
