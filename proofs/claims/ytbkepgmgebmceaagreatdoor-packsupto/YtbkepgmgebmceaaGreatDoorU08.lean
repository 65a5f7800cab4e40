import Derived.Test.YtbkepgmgebmceaaGreatDoorU07
import Derived.Deep.RegionLaw
import Derived.Deep.AppendLies

namespace Go.Proofs.YtbkepgmgebmceaaGreatDoor.Own
open Go.RowKit Go.Proofs.YtbkepgmgebmceaaGreatDoor Go.Proofs.YtbkepgmgebmceaaGreatDoor.Spl
set_option linter.unusedVariables false

/-- A box of a list that came out, empty. -/
def zero5 : Array Value := #[.slice none 0 0, .slice none 0 0, .slice none 0 0, .slice none 0 0, .int .i64 0]
theorem owned_neG {e T : TypeId} (hTe : T ≠ e) {w : World} {base R n size : Nat} {v : Value} {xs : List Value} (h : w.ownsRow base e size v n xs) {cs : Array Value} (hR : w.heap[R]? = some (.cells cs T (0, 0))) : some R ≠ v.ownBlock := by
  intro er
  rcases h.2 with ⟨rfl, _⟩ | ⟨g, cap, cur, rfl, _, hh, _⟩
  · simp [Value.ownBlock] at er
  · simp [Value.ownBlock] at er
    subst er
    rw [hR] at hh
    simp at hh
    exact hTe hh.2
theorem res_onG {e T : TypeId} (hTe : T ≠ e) {W w2 : World} {base n k R : Nat} {c : List Value} {v v' : Value} {o : Obj} {cs : Array Value} (M : MarkedG e (W.alloc o) w2 base n k c v v') (hown : W.ownsRow base e c.length v n (repG c n)) (hR : W.heap[R]? = some (.cells cs T (0, 0))) : w2.heap[R]? = some (.cells cs T (0, 0)) := by
  have hlt := lt_of_heap hR
  rw [M.grown.block R (by simp; omega) (owned_neG hTe hown hR), Below.heap_alloc _ _ _ hlt]
  exact hR
theorem own_blockG {e T : TypeId} (hTe : T ≠ e) {W w2 w3 w4 : World} {base n R : Nat} {c : List Value} {v o t h : Value} {o1 o2 o3 : Obj} {cs : Array Value} (hR : W.heap[R]? = some (.cells cs T (0, 0)))
    (M1 : MarkedG e (W.alloc o1) w2 base n 1 c v o) (M2 : MarkedG e (w2.alloc o2) w3 base n 2 c v t) (M3 : MarkedG e (w3.alloc o3) w4 base n 3 c v h) (hown : W.ownsRow base e c.length v n (repG c n)) :
    w4.heap[R]? = some (.cells cs T (0, 0)) :=
  res_onG hTe M3 M2.old (res_onG hTe M2 M1.old (res_onG hTe M1 hown hR))
theorem cells5 {w : World} {R : Nat} {T : TypeId} (h : w.heap[R]? = some (.cells zero5 T (0, 0))) :
    w.cell? ⟨R, 0, none⟩ = some (.slice none 0 0) ∧ w.cell? ⟨R, 1, none⟩ = some (.slice none 0 0) ∧ w.cell? ⟨R, 2, none⟩ = some (.slice none 0 0) ∧ w.cell? ⟨R, 3, none⟩ = some (.slice none 0 0) ∧ w.cell? ⟨R, 4, none⟩ = some (.int .i64 0) ∧
    w.frozen? ⟨R, 0, none⟩ = false ∧ w.frozen? ⟨R, 1, none⟩ = false ∧ w.frozen? ⟨R, 2, none⟩ = false ∧ w.frozen? ⟨R, 3, none⟩ = false ∧ w.frozen? ⟨R, 4, none⟩ = false := by
  simp [World.cell?, World.frozen?, h, zero5]
theorem grown_cell (w : World) (R j : Nat) (x : Value) : w.grownBy (w.setCell ⟨R, j, none⟩ x) (some R) :=
  ⟨rfl, rfl, rfl, by simp [World.setCell], fun k hk hn => Below.heap_setCell _ _ _ _ (fun er => hn (by rw [er]))⟩
theorem kept_setG {e T : TypeId} (hTe : T ≠ e) {w : World} {R j : Nat} {x : Value} {cs : Array Value} {l o t h : Value} {n : Nat} {c : List Value} (hR : w.heap[R]? = some (.cells cs T (0, 0))) (k : KeptG e w l o t h n c) : KeptG e (w.setCell ⟨R, j, none⟩ x) l o t h n c :=
  k.far (grown_cell w R j x) (fun r hr => by injection hr with hr; subst hr; exact ⟨cs, T, _, hR, hTe⟩)
theorem res_setG {T : TypeId} {w : World} {R j : Nat} {x : Value} {cs : Array Value} (hR : w.heap[R]? = some (.cells cs T (0, 0))) : (w.setCell ⟨R, j, none⟩ x).heap[R]? = some (.cells (cs.setIfInBounds j x) T (0, 0)) := heap_setCell_same w R j cs T x hR

/-- What the three appends and the store of the result leave. -/
theorem own_endG {e T : TypeId} (hTe : T ≠ e) {w W w2 w3 w4 : World} {base n R : Nat} {c : List Value} {v o t h : Value} {o1 o2 o3 : Obj} (hR : W.heap[R]? = some (.cells zero5 T (0, 0))) (hb : Below base w W) (hbase : base ≤ W.heap.size) (hRb : base ≤ R)
    (M1 : MarkedG e (W.alloc o1) w2 base n 1 c v o) (M2 : MarkedG e (w2.alloc o2) w3 base n 2 c v t) (M3 : MarkedG e (w3.alloc o3) w4 base n 3 c v h) (hown : W.ownsRow base e c.length v n (repG c n)) (x0 x1 x2 x3 x4 : Value) :
    KeptG e (((((w4.setCell ⟨R, 0, none⟩ x0).setCell ⟨R, 1, none⟩ x1).setCell ⟨R, 2, none⟩ x2).setCell ⟨R, 3, none⟩ x3).setCell ⟨R, 4, none⟩ x4) v o t h n c ∧
    Below base w (((((w4.setCell ⟨R, 0, none⟩ x0).setCell ⟨R, 1, none⟩ x1).setCell ⟨R, 2, none⟩ x2).setCell ⟨R, 3, none⟩ x3).setCell ⟨R, 4, none⟩ x4) := by
  have hR4 := own_blockG hTe hR M1 M2 M3 hown
  have al : ∀ (X : World) (ob : Obj), Below X.heap.size X (X.alloc ob) := fun X ob => (Below.refl _ _).alloc (Nat.le_refl _) ob
  have hk : KeptG e w4 v o t h n c := by
    refine ⟨MkG.of_owns M3.old, ?_, ?_, MkG.of_owns M3.new⟩
    · exact M3.keep _ _ (by omega) ((M2.keep _ _ (by omega) ((MkG.of_owns M1.new).later (al _ _))).later (al _ _))
    · exact M3.keep _ _ (by omega) ((MkG.of_owns M2.new).later (al _ _))
  have hz2 := M1.grown.size
  have hz3 := M2.grown.size
  simp at hz2 hz3
  have b1 : Below base w w2 := (hb.alloc hbase _).grown M1.grown (by simp; omega) (fun k hk => (hown.lt k hk).1)
  have b2 : Below base w w3 := (b1.alloc (by omega) _).grown M2.grown (by simp; omega) (fun k hk => (M1.old.lt k hk).1)
  have b3 : Below base w w4 := (b2.alloc (by omega) _).grown M3.grown (by simp; omega) (fun k hk => (M2.old.lt k hk).1)
  exact ⟨kept_setG hTe (res_setG (res_setG (res_setG (res_setG hR4)))) (kept_setG hTe (res_setG (res_setG (res_setG hR4))) (kept_setG hTe (res_setG (res_setG hR4)) (kept_setG hTe (res_setG hR4) (kept_setG hTe hR4 hk)))),
    ((((b3.setCell (p := ⟨R, 0, none⟩) hRb x0).setCell (p := ⟨R, 1, none⟩) hRb x1).setCell (p := ⟨R, 2, none⟩) hRb x2).setCell (p := ⟨R, 3, none⟩) hRb x3).setCell (p := ⟨R, 4, none⟩) hRb x4⟩

theorem Tryz.info5o : (Tryz.prog.info? 5).map (fun i => (i.zero, i.size, i.bytes)) = some (some (.int .u8 0), 1, 1) := by kernel_rfl
theorem fam5 : ∃ i0, Fam 109 5 1 1 i0 (.int .u8 0) := by
  obtain ⟨i0, hi, hz0, hz1, hz2⟩ := info_parts Tryz.info5o
  exact ⟨i0, Tryz.underlying109, hi, hz0, hz1, hz2, rfl, by omega⟩
/-- The mark of a list of bytes. -/
def mb (m : Nat) : Int := ((m % 251 : Nat) : Int)
theorem mb_rem (m : Nat) : Int.tmod (m : Int) 251 = mb m := by rw [Int.tmod_eq_emod_of_nonneg (by omega)]; unfold mb; omega
theorem mb_wrap (m : Nat) : IntKind.u8.wrap (mb m) = mb m := by
  have h : m % 251 < 251 := Nat.mod_lt _ (by omega)
  unfold mb
  generalize m % 251 = k at h
  simp [IntKind.wrap, IntKind.signed, IntKind.bits]
  omega

set_option maxHeartbeats 1000000 in
set_option maxRecDepth 100000 in
theorem ownB_zero (base m : Nat) (a : Option Addr) (cap : Nat) (w : World) (hm : m ≤ 9223372036854775807) (hbase : base ≤ w.heap.size) (hown0 : w.ownsRow base 5 1 (.slice a 0 cap) 0 []) :
    Calls Tryz.prog 154 #[.slice a 0 cap, .int .i64 m] w fun e w' => ∃ o t h, e = .returned (.agg #[.slice a 0 cap, o, t, h, .int .i64 m]) ∧ KeptG 5 w' (.slice a 0 cap) o t h 0 [.int .u8 (mb m)] ∧ Below base w w' := by
  obtain ⟨i0, hF⟩ := fam5
  have q1 := mb_rem m
  have q2 := mb_wrap m
  have hone : ∀ u ∈ ([.int .u8 (mb m)] : List Value), u.oneCell' = true := by intro u hu; simp at hu; subst hu; rfl
  go_enter Tryz.func154, Tryz.ntmps154
  go_wp2_with fail
  obtain ⟨W, hW⟩ : ∃ W, w.alloc (.cells #[.slice none 0 0, .slice none 0 0, .slice none 0 0, .slice none 0 0, .int .i64 0] 111) = W := ⟨_, rfl⟩
  have hR : Hid (W.heap[w.heap.size]? = some (.cells zero5 111 (0, 0))) := by show _ = _; rw [← hW]; exact heap_alloc_new w _
  have hown : W.ownsRow base 5 1 (.slice a 0 cap) 0 (repG [.int .u8 (mb m)] 0) := by rw [← hW]; exact hown0.alloc _
  have hb0 : Below w.heap.size w W := by rw [← hW]; exact (Below.refl _ _).alloc (Nat.le_refl _) _
  have hbW : base ≤ W.heap.size := by rw [← hW]; simp; omega
  rw [hW]
  clear hW hown0
  refine wp_loop_rounds 1 ?_
  rw [rounds_succ]
  go_wp2_with (first
    | (at_builtin; refine wpList_markG hF _ rfl _ _ rfl base 0 1 [.int .u8 (mb m)] rfl hone _ rfl (hown.alloc _) ⟨W.heap.size, 0, none⟩ 1 rfl (World.news_of_block (cs := #[.int .u8 (mb m)]) (t := 5) (fr := (0, 0)) (heap_alloc_new _ _)) (by omega) (by omega) (by omega) (by simp; omega) ?_; intro go co w2 M1)
    | (at_builtin; refine wpList_markG hF _ rfl _ _ rfl base 0 2 [.int .u8 (mb m)] rfl hone _ rfl (M1.old.alloc _) ⟨w2.heap.size, 0, none⟩ 2 rfl (World.news_of_block (cs := #[.int .u8 (mb m), .int .u8 (mb m)]) (t := 5) (fr := (0, 0)) (heap_alloc_new _ _)) (by omega) (by omega) (by omega) (by have := M1.grown.size; simp at this ⊢; omega) ?_; intro gt ct w3 M2)
    | (at_builtin; refine wpList_markG hF _ rfl _ _ rfl base 0 3 [.int .u8 (mb m)] rfl hone _ rfl (M2.old.alloc _) ⟨w3.heap.size, 0, none⟩ 3 rfl (World.news_of_block (cs := #[.int .u8 (mb m), .int .u8 (mb m), .int .u8 (mb m)]) (t := 5) (fr := (0, 0)) (heap_alloc_new _ _)) (by omega) (by omega) (by omega) (by have := M1.grown.size; have := M2.grown.size; simp at *; omega) ?_; intro gh ch w4 M3; obtain ⟨r0, r1, r2, r3, r4, f0, f1, f2, f3, f4⟩ := cells5 (own_blockG (by decide) hR.out M1 M2 M3 hown))
    | fail)
  have hE := own_endG (R := w.heap.size) (by decide) hR.out (hb0.mono hbase) (by omega) hbase M1 M2 M3 hown (.slice a 0 cap) (.slice (some ⟨go, 0, none⟩) 1 co) (.slice (some ⟨gt, 0, none⟩) 2 ct) (.slice (some ⟨gh, 0, none⟩) 3 ch) (.int .i64 m)
  refine bodyPost_ret (v := .agg #[.slice a 0 cap, .slice (some ⟨go, 0, none⟩) 1 co, .slice (some ⟨gt, 0, none⟩) 2 ct, .slice (some ⟨gh, 0, none⟩) 3 ch, .int .i64 m]) (by simp [results, Tryz.results154, go_sem, r0, r1, r2, r3, r4]) rfl ⟨_, _, _, rfl, hE.1, hE.2⟩

theorem mark1 (x : Value) (n j : Nat) (ws : List Value) (hw : ws.length = n) (hj : j < n) : (repG [x] j ++ ws.drop j).set j x = repG [x] (j + 1) ++ ws.drop (j + 1) := by
  have hl : (repG [x] j).length = j := by rw [repG_len]; simp
  rw [List.set_append_right _ _ (by rw [hl]; omega), hl, Nat.sub_self]
  have h1 : ws.drop j = ws[j] :: ws.drop (j + 1) := List.drop_eq_getElem_cons (by omega)
  rw [h1, List.set_cons_zero, ← repG_add]
  simp [repG]

set_option maxHeartbeats 2000000 in
set_option maxRecDepth 100000 in
theorem ownB_some (base n m g cap : Nat) (ws : List Value) (w : World) (hm : m ≤ 9223372036854775807) (hbase : base ≤ w.heap.size) (hn : n ≤ 100000000000) (hws : ws.length = n) (hown0 : w.ownsRow base 5 1 (.slice (some ⟨g, 0, none⟩) n cap) n ws) :
    Calls Tryz.prog 154 #[.slice (some ⟨g, 0, none⟩) n cap, .int .i64 m] w fun e w' => ∃ o t h, e = .returned (.agg #[.slice (some ⟨g, 0, none⟩) n cap, o, t, h, .int .i64 m]) ∧ KeptG 5 w' (.slice (some ⟨g, 0, none⟩) n cap) o t h n [.int .u8 (mb m)] ∧ Below base w w' := by
  obtain ⟨i0, hF⟩ := fam5
  have q1 := mb_rem m
  have q2 := mb_wrap m
  have hone : ∀ u ∈ ([.int .u8 (mb m)] : List Value), u.oneCell' = true := by intro u hu; simp at hu; subst hu; rfl
  have hg := hown0.lt g rfl
  have hg1 := hg.1
  have hg2 := hg.2
  clear hg
  replace hws := hide hws
  have HO0 := hide hown0
  clear hown0
  go_enter Tryz.func154, Tryz.ntmps154
  go_wp2_with fail
  obtain ⟨W, hW⟩ : ∃ W, w.alloc (.cells #[.slice none 0 0, .slice none 0 0, .slice none 0 0, .slice none 0 0, .int .i64 0] 111) = W := ⟨_, rfl⟩
  have hR : Hid (W.heap[w.heap.size]? = some (.cells zero5 111 (0, 0))) := by show _ = _; rw [← hW]; exact heap_alloc_new w _
  have hown1 : Hid (W.ownsRow base 5 1 (.slice (some ⟨g, 0, none⟩) n cap) n ws) := by show World.ownsRow _ _ _ _ _ _ _; rw [← hW]; exact HO0.out.alloc _
  have hb0 : Below w.heap.size w W := by rw [← hW]; exact (Below.refl _ _).alloc (Nat.le_refl _) _
  have hbW : w.heap.size + 1 ≤ W.heap.size := by rw [← hW]; simp
  rw [hW]
  clear hW HO0
  go_loopw [6] (fun i wr => ∃ j : Nat, j ≤ n ∧ i = .int .i64 j ∧ Hid (wr.ownsRow base 5 1 (.slice (some ⟨g, 0, none⟩) n cap) n (repG [.int .u8 (mb m)] j ++ ws.drop j)) ∧ Hid (wr.heap[w.heap.size]? = some (.cells zero5 111 (0, 0))) ∧ Below base w wr ∧ w.heap.size + 1 ≤ wr.heap.size) (fun i _ => n - (intOf i).toNat)
  case atStart => exact ⟨0, Nat.zero_le _, rfl, hown1, hR, hb0.mono hbase, hbW⟩
  case round =>
    clear hown1 hR hb0 hbW
    obtain ⟨j, hj, rfl, hown, hR, hb, hz⟩ := hrel
    by_cases hlt : j < n
    · have h1 : (j : Int) < (n : Int) := by omega
      have h0 : (0 : Int) ≤ (j : Int) := by omega
      have hcell : ∃ x, wr.cell? ⟨g, j, none⟩ = some x := by
        have hl : (repG [.int .u8 (mb m)] j ++ ws.drop j).length = n := by rw [List.length_append, repG_len, List.length_drop, hws.out]; simp; omega
        exact ⟨_, by rw [hown.out.cellAt j (by omega), List.getElem?_eq_getElem (by omega)]⟩
      obtain ⟨x, hx⟩ := hcell
      have hfz : wr.frozen? ⟨g, j, none⟩ = false := hown.out.frozenAt j
      have hst := hide (hown.out.stored j (.int .u8 (mb m))).1
      have hmk := hide (mark1 (.int .u8 (mb m)) n j ws hws.out hlt)
      go_wp2_with fail
      go_roundw
      case rel =>
        refine ⟨j + 1, by omega, by go_num, ?_, ?_, hb.setCell (p := ⟨g, j, none⟩) hg1 _, by simpa using hz⟩
        · show World.ownsRow _ _ _ _ _ _ _
          have := hst.out; rw [hmk.out] at this; exact this
        · show _ = _
          rw [Below.heap_setCell _ _ _ _ (show w.heap.size ≠ g by omega)]; exact hR.out
      case measure => simp [intOf]; omega
    · have hjn : n = j := by omega
      subst hjn
      have hown2 := hown.out
      rw [List.drop_of_length_le (by rw [hws.out]; exact Nat.le_refl _), List.append_nil] at hown2
      replace hown := hown2
      clear hown2
      have hbr : base ≤ wr.heap.size := by omega
      have HZ := hide hz
      clear hz
      go_wp2_with (first
        | (at_builtin; refine wpList_markG hF _ rfl _ _ rfl base n 1 [.int .u8 (mb m)] rfl hone _ rfl (hown.alloc _) ⟨wr.heap.size, 0, none⟩ 1 rfl (World.news_of_block (cs := #[.int .u8 (mb m)]) (t := 5) (fr := (0, 0)) (heap_alloc_new _ _)) (by omega) (by omega) (by omega) (by simp; omega) ?_; intro go co w2 M1)
        | (at_builtin; refine wpList_markG hF _ rfl _ _ rfl base n 2 [.int .u8 (mb m)] rfl hone _ rfl (M1.old.alloc _) ⟨w2.heap.size, 0, none⟩ 2 rfl (World.news_of_block (cs := #[.int .u8 (mb m), .int .u8 (mb m)]) (t := 5) (fr := (0, 0)) (heap_alloc_new _ _)) (by omega) (by omega) (by omega) (by have := M1.grown.size; simp at this ⊢; omega) ?_; intro gt ct w3 M2)
        | (at_builtin; refine wpList_markG hF _ rfl _ _ rfl base n 3 [.int .u8 (mb m)] rfl hone _ rfl (M2.old.alloc _) ⟨w3.heap.size, 0, none⟩ 3 rfl (World.news_of_block (cs := #[.int .u8 (mb m), .int .u8 (mb m), .int .u8 (mb m)]) (t := 5) (fr := (0, 0)) (heap_alloc_new _ _)) (by omega) (by omega) (by omega) (by have := M1.grown.size; have := M2.grown.size; simp at *; omega) ?_; intro gh ch w4 M3; obtain ⟨r0, r1, r2, r3, r4, f0, f1, f2, f3, f4⟩ := cells5 (own_blockG (by decide) hR.out M1 M2 M3 hown))
        | fail)
      have hE := own_endG (R := w.heap.size) (by decide) hR.out hb (by omega) hbase M1 M2 M3 hown (.slice (some ⟨g, 0, none⟩) n cap) (.slice (some ⟨go, 0, none⟩) (n + 1) co) (.slice (some ⟨gt, 0, none⟩) (n + 2) ct) (.slice (some ⟨gh, 0, none⟩) (n + 3) ch) (.int .i64 m)
      refine bodyPost_ret (v := .agg #[.slice (some ⟨g, 0, none⟩) n cap, .slice (some ⟨go, 0, none⟩) (n + 1) co, .slice (some ⟨gt, 0, none⟩) (n + 2) ct, .slice (some ⟨gh, 0, none⟩) (n + 3) ch, .int .i64 m]) (by simp [results, Tryz.results154, go_sem, r0, r1, r2, r3, r4]) rfl ⟨_, _, _, rfl, hE.1, hE.2⟩

theorem ownB_any (base n m : Nat) (v : Value) (ws : List Value) (w : World) (hm : m ≤ 9223372036854775807) (hbase : base ≤ w.heap.size) (hn : n ≤ 100000000000) (hown : w.ownsRow base 5 1 v n ws) :
    Calls Tryz.prog 154 #[v, .int .i64 m] w fun e w' => ∃ o t h, e = .returned (.agg #[v, o, t, h, .int .i64 m]) ∧ KeptG 5 w' v o t h n [.int .u8 (mb m)] ∧ Below base w w' := by
  obtain ⟨a, cap, rfl, hsome⟩ := owns_forms hown
  have hl : ws.length = n := by have := hown.1; omega
  by_cases h0 : n = 0
  · subst h0
    have hw : ws = [] := List.length_eq_zero_iff.1 hl
    subst hw
    exact ownB_zero base m a cap w hm hbase hown
  · obtain ⟨g, rfl⟩ := hsome (by omega)
    exact ownB_some base n m g cap ws w hm hbase hn hl hown
end Go.Proofs.YtbkepgmgebmceaaGreatDoor.Own

namespace Go.Proofs.YtbkepgmgebmceaaGreatDoor.Own
open Go.RowKit Go.Proofs.YtbkepgmgebmceaaGreatDoor Go.Proofs.YtbkepgmgebmceaaGreatDoor.Spl
set_option linter.unusedVariables false

set_option maxHeartbeats 1000000 in
set_option maxRecDepth 100000 in
theorem allB_any (n m : Nat) (u : Value) (w : World) (hm : m ≤ 9223372036854775807) (hn : n ≤ 200000000000) (h : MkG 5 w u n [.int .u8 (mb m)]) :
    Calls Tryz.prog 116 #[u, .int .i64 m] w fun e w' => e = .returned (.bool true) ∧ w' = w := by
  have q1 := mb_rem m
  have q2 := mb_wrap m
  obtain ⟨a, cap, rfl, hc⟩ := h
  have HC := hide hc
  clear hc
  go_enter Tryz.func116, Tryz.ntmps116
  go_wp2_with fail
  go_loopw [5] (fun i wr => ∃ k : Nat, k ≤ n ∧ i = .int .i64 k ∧ wr = w) (fun i _ => n - (intOf i).toNat)
  case atStart => exact ⟨0, Nat.zero_le _, rfl, rfl⟩
  case round =>
    obtain ⟨k, hk, rfl, rfl⟩ := hrel
    by_cases hlt : k < n
    · obtain ⟨g, rfl, _, hcell⟩ := HC.out (by omega)
      have h1 : wr.cell? ⟨g, k, none⟩ = some (.int .u8 (mb m)) := by
        rw [hcell k (by simpa using hlt)]
        have := repG_at [Value.int .u8 (mb m)] n k 0 hlt (by simp)
        simpa using this
      have h3 : (k : Int) < (n : Int) := by omega
      have h4 : (0 : Int) ≤ (k : Int) := by omega
      clear hcell HC
      go_wp2_with fail
      go_roundw
      case rel => exact ⟨k + 1, by omega, by go_num, by first | rfl | trivial⟩
      case measure => simp [intOf]; omega
    · go_wp2_with fail
      go_ret
      exact ⟨rfl, rfl⟩

set_option maxHeartbeats 1000000 in
set_option maxRecDepth 100000 in
theorem stillB_any (n m : Nat) (l o t h : Value) (w : World) (hm : m ≤ 9223372036854775807) (hn : n ≤ 100000000000) (hk : KeptG 5 w l o t h n [.int .u8 (mb m)]) :
    Calls Tryz.prog 48 #[.agg #[l, o, t, h, .int .i64 m]] w fun e w' => e = .returned (.bool true) ∧ Below w.heap.size w w' := by
  have hb0 : Below w.heap.size w (w.alloc (.cells #[l, o, t, h, .int .i64 m] 111)) := (Below.refl _ _).alloc (Nat.le_refl _) _
  have hk0 := hide (hk.later hb0)
  have HB := hide hb0
  obtain ⟨a1, c1, rfl, _⟩ := hk.fa
  obtain ⟨a2, c2, rfl, _⟩ := hk.fb
  obtain ⟨a3, c3, rfl, _⟩ := hk.fc
  obtain ⟨a4, c4, rfl, _⟩ := hk.fd
  clear hk hb0
  go_enter Tryz.func48, Tryz.ntmps48
  go_wp2_with fail
  refine (allB_any n m _ _ hm (by omega) hk0.out.fa).mono ?_
  rintro e w1 ⟨rfl, rfl⟩
  go_wp2_with fail
  refine (allB_any (n + 1) m _ _ hm (by omega) hk0.out.fb).mono ?_
  rintro e w2 ⟨rfl, rfl⟩
  go_wp2_with fail
  refine (allB_any (n + 2) m _ _ hm (by omega) hk0.out.fc).mono ?_
  rintro e w3 ⟨rfl, rfl⟩
  go_wp2_with fail
  refine (allB_any (n + 3) m _ _ hm (by omega) hk0.out.fd).mono ?_
  rintro e w4 ⟨rfl, rfl⟩
  go_wp2_with fail
  go_ret
  exact ⟨rfl, HB.out⟩
end Go.Proofs.YtbkepgmgebmceaaGreatDoor.Own

namespace Go.Proofs.YtbkepgmgebmceaaGreatDoor.Own
open Go.RowKit Go.Proofs.YtbkepgmgebmceaaGreatDoor Go.Proofs.YtbkepgmgebmceaaGreatDoor.Spl
set_option linter.unusedVariables false

abbrev Kp := Go.Proofs.YtbkepgmgebmceaaGreatDoor.Pak.Kp

/-- What the three appends and the store of the result turn. -/
theorem own_endK {e : TypeId} {w W w2 w3 w4 : World} {base n R : Nat} {c : List Value} {v o t h : Value} {o1 o2 o3 : Obj} (hb : Kp v.ownBlock.toList w W) (hRb : w.heap.size ≤ R)
    (M1 : MarkedG e (W.alloc o1) w2 base n 1 c v o) (M2 : MarkedG e (w2.alloc o2) w3 base n 2 c v t) (M3 : MarkedG e (w3.alloc o3) w4 base n 3 c v h) (x0 x1 x2 x3 x4 : Value) :
    Kp v.ownBlock.toList w (((((w4.setCell ⟨R, 0, none⟩ x0).setCell ⟨R, 1, none⟩ x1).setCell ⟨R, 2, none⟩ x2).setCell ⟨R, 3, none⟩ x3).setCell ⟨R, 4, none⟩ x4) := by
  have g : ∀ k, v.ownBlock = some k → k ∈ v.ownBlock.toList ∨ w.heap.size ≤ k := fun k hk => .inl (by simp [hk])
  have b3 := (((((hb.alloc o1).grown M1.grown g).alloc o2).grown M2.grown g).alloc o3).grown M3.grown g
  exact ((((b3.setCell (p := ⟨R, 0, none⟩) (.inr hRb) x0).setCell (p := ⟨R, 1, none⟩) (.inr hRb) x1).setCell (p := ⟨R, 2, none⟩) (.inr hRb) x2).setCell (p := ⟨R, 3, none⟩) (.inr hRb) x3).setCell (p := ⟨R, 4, none⟩) (.inr hRb) x4

theorem Tryz.info204o : (Tryz.prog.info? 204).map (fun i => (i.zero, i.size, i.bytes)) = some (some (.agg #[.int .i64 0, .slice none 0 0]), 2, 32) := by kernel_rfl
theorem fam194 : ∃ i0, Fam 79 204 2 32 i0 (.agg #[.int .i64 0, .slice none 0 0]) := by
  obtain ⟨i0, hi, hz0, hz1, hz2⟩ := info_parts Tryz.info204o
  exact ⟨i0, Tryz.underlying79, hi, hz0, hz1, hz2, rfl, by omega⟩
/-- The mark of a list of texts. -/
def mt (m : Nat) : Int := -1000 - (m : Int)
abbrev mtC (m : Nat) : List Value := [.int .i64 (mt m), .slice none 0 0]
theorem mt_wrap (m : Nat) (h : m ≤ 4611686018427387904) : IntKind.i64.wrap (-1000 - (m : Int)) = mt m := by
  unfold mt
  exact IntWalk.i64_in _ ⟨by omega, by omega⟩

theorem mark2 (x y : Value) (n j : Nat) (ws : List Value) (hw : ws.length = n * 2) (hj : j < n) : ((repG [x, y] j ++ ws.drop (j * 2)).set (j * 2) x).set (j * 2 + 1) y = repG [x, y] (j + 1) ++ ws.drop ((j + 1) * 2) := by
  have hl : (repG [x, y] j).length = j * 2 := by rw [repG_len]; simp
  have h1 : ws.drop (j * 2) = ws[j * 2] :: ws[j * 2 + 1] :: ws.drop ((j + 1) * 2) := by
    rw [List.drop_eq_getElem_cons (by omega), List.drop_eq_getElem_cons (by omega)]
    rw [show j * 2 + 1 + 1 = (j + 1) * 2 by omega]
  rw [h1, List.set_append_right _ _ (by rw [hl]; omega), hl, Nat.sub_self, List.set_cons_zero, List.set_append_right _ _ (by rw [hl]; omega), hl, show j * 2 + 1 - j * 2 = 1 by omega, List.set_cons_succ, List.set_cons_zero, ← repG_add]
  simp [repG]

/-- A box that is no part of the row stays, behind an append of marks. -/
theorem box_onG {e T : TypeId} {W w2 : World} {base n k X : Nat} {c : List Value} {v v' : Value} {o : Obj} {cs : Array Value} (M : MarkedG e (W.alloc o) w2 base n k c v v') (hne : v.ownBlock ≠ some X) (hX : W.heap[X]? = some (.cells cs T (0, 0))) : w2.heap[X]? = some (.cells cs T (0, 0)) := by
  have hlt := lt_of_heap hX
  rw [M.grown.block X (by simp; omega) hne.symm, Below.heap_alloc _ _ _ hlt]
  exact hX
theorem box2 {w : World} {X : Nat} {x y : Value} {T : TypeId} (h : w.heap[X]? = some (.cells #[x, y] T (0, 0))) : w.cell? ⟨X, 0, none⟩ = some x ∧ w.cell? ⟨X, 1, none⟩ = some y := by
  simp [World.cell?, h]

set_option maxHeartbeats 2000000 in
set_option maxRecDepth 100000 in
theorem ownT_any (base n m : Nat) (v : Value) (ws : List Value) (w : World) (hm : m ≤ 4611686018427387904) (hbase : base ≤ w.heap.size) (hn : n ≤ 1000000000) (hown0 : w.ownsRow base 204 2 v n ws) :
    Calls Tryz.prog 159 #[v, .int .i64 m] w fun e w' => ∃ o t h, e = .returned (.agg #[v, o, t, h, .int .i64 m]) ∧ KeptG 204 w' v o t h n (mtC m) ∧ Kp v.ownBlock.toList w w' := by
  obtain ⟨i0, hF⟩ := fam194
  have q1 := mt_wrap m hm
  have hone : ∀ u ∈ mtC m, u.oneCell' = true := by intro u hu; simp at hu; rcases hu with rfl | rfl <;> rfl
  obtain ⟨a, cap, rfl, hsome⟩ := owns_forms hown0
  have hws : Hid (ws.length = n * 2) := hown0.1
  have hgl : Hid (∀ g, a = some ⟨g, 0, none⟩ → base ≤ g ∧ g < w.heap.size) := fun g hg => by subst hg; exact ⟨(hown0.lt g rfl).1, (hown0.lt g rfl).2⟩
  have hvo : Hid ((Value.slice a n cap).ownBlock ≠ some (w.heap.size + 1) ∧ (Value.slice a n cap).ownBlock ≠ some w.heap.size) := ⟨fun hh => by have := (hown0.lt _ hh).2; omega, fun hh => by have := (hown0.lt _ hh).2; omega⟩
  have hso := hide hsome
  have HO0 := hide hown0
  clear hown0 hsome
  go_enter Tryz.func159, Tryz.ntmps159
  go_wp2_with fail
  obtain ⟨W, hW⟩ : ∃ W, (w.alloc (.cells #[.slice none 0 0, .slice none 0 0, .slice none 0 0, .slice none 0 0, .int .i64 0] 116)).alloc (.cells #[.int .i64 (mt m), .slice none 0 0] 204) = W := ⟨_, rfl⟩
  have hR : Hid (W.heap[w.heap.size]? = some (.cells zero5 116 (0, 0))) := by
    show _ = _
    rw [← hW, Below.heap_alloc _ _ _ (by simp)]; exact heap_alloc_new w _
  have hX : Hid (W.heap[w.heap.size + 1]? = some (.cells #[.int .i64 (mt m), .slice none 0 0] 204 (0, 0))) := by
    show _ = _
    rw [← hW]
    have := heap_alloc_new (w.alloc (.cells #[.slice none 0 0, .slice none 0 0, .slice none 0 0, .slice none 0 0, .int .i64 0] 116)) (.cells #[.int .i64 (mt m), .slice none 0 0] 204)
    rw [World.size_alloc] at this
    exact this
  have hown1 : Hid (W.ownsRow base 204 2 (.slice a n cap) n ws) := by show World.ownsRow _ _ _ _ _ _ _; rw [← hW]; exact (HO0.out.alloc _).alloc _
  have hb0 : Hid (Kp (Value.slice a n cap).ownBlock.toList w W) := by show Kp _ _ _; rw [← hW]; exact ((Pak.Kp.refl _ _).alloc _).alloc _
  have hbW : w.heap.size + 2 ≤ W.heap.size := by rw [← hW]; simp
  rw [hW]
  clear hW HO0
  go_loopw [6] (fun i wr => ∃ j : Nat, j ≤ n ∧ i = .int .i64 j ∧ Hid (wr.ownsRow base 204 2 (.slice a n cap) n (repG (mtC m) j ++ ws.drop (j * 2))) ∧ Hid (wr.heap[w.heap.size]? = some (.cells zero5 116 (0, 0))) ∧ Hid (wr.heap[w.heap.size + 1]? = some (.cells #[.int .i64 (mt m), .slice none 0 0] 204 (0, 0))) ∧ Hid (Kp (Value.slice a n cap).ownBlock.toList w wr) ∧ w.heap.size + 2 ≤ wr.heap.size) (fun i _ => n - (intOf i).toNat)
  case atStart => exact ⟨0, Nat.zero_le _, rfl, by simpa [repG] using hown1, hR, hX, hb0, hbW⟩
  case round =>
    clear hown1 hR hX hb0 hbW
    obtain ⟨j, hj, rfl, hown, hR, hX, hb, hz⟩ := hrel
    by_cases hlt : j < n
    · obtain ⟨g, rfl⟩ := hso.out (by omega)
      have hg1 := (hgl.out g rfl).1
      have hg2 := (hgl.out g rfl).2
      have h1 : (j : Int) < (n : Int) := by omega
      have h0 : (0 : Int) ≤ (j : Int) := by omega
      obtain ⟨y0, y1⟩ := box2 hX.out
      have hl : (repG (mtC m) j ++ ws.drop (j * 2)).length = n * 2 := by rw [List.length_append, repG_len, List.length_drop, hws.out]; simp; omega
      obtain ⟨x0, hx0⟩ : ∃ x, wr.cell? ⟨g, j * 2, none⟩ = some x := ⟨_, by rw [hown.out.cellAt (j * 2) (by omega), List.getElem?_eq_getElem (by omega)]⟩
      obtain ⟨x1, hx1⟩ : ∃ x, wr.cell? ⟨g, j * 2 + 1, none⟩ = some x := ⟨_, by rw [hown.out.cellAt (j * 2 + 1) (by omega), List.getElem?_eq_getElem (by omega)]⟩
      have hf0 : wr.frozen? ⟨g, j * 2, none⟩ = false := hown.out.frozenAt (j * 2)
      have hf1 : wr.frozen? ⟨g, j * 2 + 1, none⟩ = false := hown.out.frozenAt (j * 2 + 1)
      have hst := hide (((hown.out.stored (j * 2) (.int .i64 (mt m))).1).stored (j * 2 + 1) (.slice none 0 0)).1
      have hmk := hide (mark2 (.int .i64 (mt m)) (.slice none 0 0) n j ws hws.out hlt)
      clear hl
      go_wp2_with fail
      go_roundw
      case rel =>
        refine ⟨j + 1, by omega, by go_num, ?_, ?_, ?_, (hb.out.setCell (p := ⟨g, j * 2, none⟩) (.inl (by simp [Value.ownBlock])) _).setCell (p := ⟨g, j * 2 + 1, none⟩) (.inl (by simp [Value.ownBlock])) _, by simpa using hz⟩
        · show World.ownsRow _ _ _ _ _ _ _
          have := hst.out; rw [hmk.out] at this; exact this
        · show _ = _
          rw [Below.heap_setCell _ _ _ _ (show w.heap.size ≠ g by omega), Below.heap_setCell _ _ _ _ (show w.heap.size ≠ g by omega)]; exact hR.out
        · show _ = _
          rw [Below.heap_setCell _ _ _ _ (show w.heap.size + 1 ≠ g by omega), Below.heap_setCell _ _ _ _ (show w.heap.size + 1 ≠ g by omega)]; exact hX.out
      case measure => simp [intOf]; omega
    · have hjn : n = j := by omega
      subst hjn
      have hown2 := hown.out
      rw [List.drop_of_length_le (by rw [hws.out]; exact Nat.le_refl _), List.append_nil] at hown2
      replace hown := hown2
      clear hown2
      have hbr : base ≤ wr.heap.size := by omega
      have HZ := hide hz
      obtain ⟨y0, y1⟩ := box2 hX.out
      clear hz
      go_wp2_with (first
        | (at_builtin; refine wpList_markG hF _ rfl _ _ rfl base n 1 (mtC m) rfl hone _ rfl (hown.alloc _) ⟨wr.heap.size, 0, none⟩ 1 rfl (World.news_of_block (cs := #[.int .i64 (mt m), .slice none 0 0]) (t := 204) (fr := (0, 0)) (heap_alloc_new _ _)) (by omega) (by omega) (by omega) (by simp; omega) ?_; intro go co w2 M1; have hX2 := box_onG M1 hvo.out.1 hX.out; obtain ⟨z0, z1⟩ := box2 hX2)
        | (at_builtin; refine wpList_markG hF _ rfl _ _ rfl base n 2 (mtC m) rfl hone _ rfl (M1.old.alloc _) ⟨w2.heap.size, 0, none⟩ 2 rfl (World.news_of_block (cs := #[.int .i64 (mt m), .slice none 0 0, .int .i64 (mt m), .slice none 0 0]) (t := 204) (fr := (0, 0)) (heap_alloc_new _ _)) (by omega) (by omega) (by omega) (by have := M1.grown.size; simp at this ⊢; omega) ?_; intro gt ct w3 M2; have hX3 := box_onG M2 hvo.out.1 hX2; obtain ⟨s0, s1⟩ := box2 hX3)
        | (at_builtin; refine wpList_markG hF _ rfl _ _ rfl base n 3 (mtC m) rfl hone _ rfl (M2.old.alloc _) ⟨w3.heap.size, 0, none⟩ 3 rfl (World.news_of_block (cs := #[.int .i64 (mt m), .slice none 0 0, .int .i64 (mt m), .slice none 0 0, .int .i64 (mt m), .slice none 0 0]) (t := 204) (fr := (0, 0)) (heap_alloc_new _ _)) (by omega) (by omega) (by omega) (by have := M1.grown.size; have := M2.grown.size; simp at *; omega) ?_; intro gh ch w4 M3; obtain ⟨r0, r1, r2, r3, r4, f0, f1, f2, f3, f4⟩ := cells5 (own_blockG (by decide) hR.out M1 M2 M3 hown))
        | fail)
      have hE := own_endG (w := wr) (R := w.heap.size) (by decide) hR.out (Below.refl base wr) (by omega) hbase M1 M2 M3 hown (.slice a n cap) (.slice (some ⟨go, 0, none⟩) (n + 1) co) (.slice (some ⟨gt, 0, none⟩) (n + 2) ct) (.slice (some ⟨gh, 0, none⟩) (n + 3) ch) (.int .i64 m)
      have hE2 := own_endK (R := w.heap.size) hb.out (Nat.le_refl _) M1 M2 M3 (.slice a n cap) (.slice (some ⟨go, 0, none⟩) (n + 1) co) (.slice (some ⟨gt, 0, none⟩) (n + 2) ct) (.slice (some ⟨gh, 0, none⟩) (n + 3) ch) (.int .i64 m)
      refine bodyPost_ret (v := .agg #[.slice a n cap, .slice (some ⟨go, 0, none⟩) (n + 1) co, .slice (some ⟨gt, 0, none⟩) (n + 2) ct, .slice (some ⟨gh, 0, none⟩) (n + 3) ch, .int .i64 m]) (by simp [results, Tryz.results159, go_sem, r0, r1, r2, r3, r4]) rfl ⟨_, _, _, rfl, hE.1, hE2⟩
end Go.Proofs.YtbkepgmgebmceaaGreatDoor.Own
