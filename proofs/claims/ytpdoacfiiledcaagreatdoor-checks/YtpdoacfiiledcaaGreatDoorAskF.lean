import Derived.Test.YtpdoacfiiledcaaGreatDoorAskE
namespace Go.Proofs.YtpdoacfiiledcaaGreatDoor
open Go.RowKit ChkM
open Pak (Kp)
set_option linter.unusedVariables false

theorem query_zero (s : ByteArray) (B : Nat) (w : World) (hs : s.size ≤ 1000) (hp : Pa w B s 0) :
    Calls Tryz.prog 225 #[.pointer (some ⟨B, 0, none⟩), .int .i64 0] w (RQ (psTop s.data.toList) B s 0 w) := by
  have h := query_any (3 * s.size + 3) s 0 B 0 w hs (Nat.zero_le _) (by omega) (by omega) hp
  have e : ps (3 * s.size + 3) 2 0 (s.data.toList.drop 0) = psTop s.data.toList := by
    unfold psTop
    rw [show s.data.toList.length = s.size by simp]; rfl
  rw [e, show ((0 : Nat) : Int) = 0 from rfl] at h
  exact h
theorem rest_nil {s : ByteArray} {r : List UInt8} {k : Nat} (h : r = s.data.toList.drop k) (hk : k ≤ s.size) : (r = [] ↔ k = s.size) ∧ s.size - r.length = k := by
  have hl : r.length = s.size - k := by rw [h, List.length_drop]; simp
  refine ⟨⟨fun e => ?_, fun e => ?_⟩, by omega⟩
  · rw [e] at hl; simp at hl; omega
  · exact List.length_eq_zero_iff.1 (by omega)
theorem results_cell_tmp2 {fn : Func} {p u v : Tmp} {ty : TypeId} (h : fn.results = #[.cell p ty, .tmp u, .tmp v]) (tmps : Array Value) (P : Program) (w : World) :
    (results fn tmps).run P w =
      ((asAddr (tmps.getD p undef)).run P w).andThen fun a w₁ => ((loadVar ty a).run P w₁).andThen fun x w₂ => .ok (.tuple #[x, tmps.getD u undef, tmps.getD v undef]) w₂ := by
  simp only [results, h]
  simp [Sem.run_bind, Result.andThen]
theorem ret_query3 {fn : Func} {R : Ending → World → Prop} {a : Act} {w : World} {p u u' R0 : Nat} {kd : Int} {wv pv : Value} (hres : fn.results = #[.cell p 139, .tmp u, .tmp u'])
    (hb : Bx w R0 kd wv pv) (hp : a.tmps.getD p undef = .pointer (some ⟨R0, 0, none⟩)) (hd : a.defers = []) (h : R (.returned (.tuple #[.agg #[.int .i64 kd, wv, pv], a.tmps.getD u undef, a.tmps.getD u' undef])) w) : bodyPost Tryz.prog fn R .ret a w := by
  refine bodyPost_ret (v := .tuple #[.agg #[.int .i64 kd, wv, pv], a.tmps.getD u undef, a.tmps.getD u' undef]) ?_ hd h
  rw [results_cell_tmp2 hres, hp]
  simp [asAddr, Result.andThen, load_query w R0 kd wv pv hb]

theorem read_boxes (s : ByteArray) (w : World) : ∃ W, (w.alloc (.cells nilQ 139)).alloc (.cells #[.string s, .int .i64 0] 329) = W ∧ Pa W (w.heap.size + 1) s 0 ∧ Bx W w.heap.size 0 (.slice none 0 0) (.slice none 0 0) ∧ Kp [] w W := by
  refine ⟨_, rfl, ?_, bx_past (heap_alloc_new w _) _, ((Kp.refl [] w).alloc _).alloc _⟩
  have e : w.heap.size + 1 = (w.alloc (.cells nilQ 139)).heap.size := by simp
  rw [e]
  exact ⟨by rw [World.cell?_alloc_at _ _ _ _ rfl]; rfl, by rw [World.cell?_alloc_at _ _ _ _ rfl]; rfl, World.frozen?_alloc_at _ _ _ _ rfl⟩

/-- What Read of queries gives. -/
def ReadPost (s : ByteArray) (w : World) (e : Ending) (w' : World) : Prop :=
  ∃ (v : Value) (b : Bool) (k : Nat), e = .returned (.tuple #[v, .bool b, .int .i64 k]) ∧ Qv v ∧ Hid (b = decide ((psTop s.data.toList).1 = true ∧ (psTop s.data.toList).2 = [])) ∧ Hid (k = s.size - (psTop s.data.toList).2.length) ∧ k ≤ s.size ∧ Kp [] w w'

set_option maxHeartbeats 1000000 in
set_option maxRecDepth 100000 in
theorem readq_any (s : ByteArray) (w : World) (hs : s.size ≤ 1000) : Calls Tryz.prog 129 #[.string s] w (ReadPost s w) := by
  go_enter Tryz.func129, Tryz.ntmps129
  go_wp2_with fail
  obtain ⟨W, hW, pW, r0, kW⟩ := read_boxes s w
  rw [hW]
  clear hW
  refine (query_zero s (w.heap.size + 1) W hs pW).mono ?_
  rintro e w1 ⟨k, v, rfl, ⟨kd1, a1, n1, c1, a2, n2, c2, rfl⟩, h1, h2, hr, hP, hk1⟩
  have r1 : Bx w1 w.heap.size 0 (.slice none 0 0) (.slice none 0 0) := hk1.heap r0 (by simp)
  have hnil := hide (rest_nil hr h2)
  have K1 : Hid (Kp [] w w1) := kW.trans hk1 (fun x hx => by simp at hx; subst hx; exact .inr (by omega))
  obtain ⟨ok, hok⟩ : ∃ ok, (psTop s.data.toList).1 = ok := ⟨_, rfl⟩
  rw [hok]
  have Hok := hide hok
  have HR := hide r1
  have HP := hide hP
  have hlt : w.heap.size < w1.heap.size := (Array.getElem?_eq_some_iff.1 r1).1
  clear hr hk1 pW r0 kW hok r1 hP
  go_wp2_with fail
  obtain ⟨W4, hW4⟩ : ∃ W4, w1.alloc (.cells #[.int .i64 kd1, .slice a1 n1 c1, .slice a2 n2 c2] 139) = W4 := ⟨_, rfl⟩
  have K4 : Hid (Kp [] w W4) := by show Kp _ _ _; rw [← hW4]; exact K1.out.alloc _
  have r4 : Bx W4 w.heap.size 0 (.slice none 0 0) (.slice none 0 0) := by rw [← hW4]; exact bx_past HR.out _
  have bq : Bx W4 w1.heap.size kd1 (.slice a1 n1 c1) (.slice a2 n2 c2) := by rw [← hW4]; exact heap_alloc_new w1 _
  have p4 : W4.cell? ⟨w.heap.size + 1, 1, none⟩ = some (.int .i64 (k : Int)) := by rw [← hW4]; exact ((Kp.refl [] w1).alloc _).cellv HP.out.2.1 (by simp)
  rw [hW4]
  clear hW4 HR HP K1
  obtain ⟨x0, x1, x2, y0, y1, y2⟩ := bx_cells r4
  obtain ⟨u0, u1, u2, _, _, _⟩ := bx_cells bq
  have HR4 := hide r4
  clear r4 bq
  have hne3 : ¬ w.heap.size = w1.heap.size := by omega
  have hne3' : ¬ w1.heap.size = w.heap.size := by omega
  cases ok
  · go_region
    all_goals
      go_wp2_with fail
      refine ret_query3 rfl (bx_store3 HR4.out _ _ _) rfl rfl ?_
      exact ⟨_, false, k, rfl, ⟨kd1, a1, n1, c1, a2, n2, c2, rfl⟩, by show _ = _; simp [Hok.out], by show _ = _; rw [hnil.out.2], h2, K4.out.trans (kp_drew (kp_store3 W4 _ _ _ _)) (fun x hx => by simp at hx; subst hx; exact .inr (Nat.le_refl _))⟩
  · by_cases he : k = s.size
    · have hq : ((k : Int) == (s.size : Int)) = true := by rw [beq_iff_eq]; omega
      have hfin : Hid ((psTop s.data.toList).2 = []) := hnil.out.1.2 he
      clear he
      go_region
      all_goals
        go_wp2_with fail
        refine ret_query3 rfl (bx_store3 HR4.out _ _ _) rfl rfl ?_
        exact ⟨_, true, k, rfl, ⟨kd1, a1, n1, c1, a2, n2, c2, rfl⟩, by show _ = _; simp [Hok.out, hfin.out], by show _ = _; rw [hnil.out.2], h2, K4.out.trans (kp_drew (kp_store3 W4 _ _ _ _)) (fun x hx => by simp at hx; subst hx; exact .inr (Nat.le_refl _))⟩
    · have hq : ((k : Int) == (s.size : Int)) = false := by rw [beq_eq_false_iff_ne]; omega
      have hfin : Hid (¬ (psTop s.data.toList).2 = []) := fun h => he (hnil.out.1.1 h)
      clear he
      go_region
      all_goals
        go_wp2_with fail
        refine ret_query3 rfl (bx_store3 HR4.out _ _ _) rfl rfl ?_
        exact ⟨_, false, k, rfl, ⟨kd1, a1, n1, c1, a2, n2, c2, rfl⟩, by show _ = _; simp [Hok.out, hfin.out], by show _ = _; rw [hnil.out.2], h2, K4.out.trans (kp_drew (kp_store3 W4 _ _ _ _)) (fun x hx => by simp at hx; subst hx; exact .inr (Nat.le_refl _))⟩
end Go.Proofs.YtpdoacfiiledcaaGreatDoor
