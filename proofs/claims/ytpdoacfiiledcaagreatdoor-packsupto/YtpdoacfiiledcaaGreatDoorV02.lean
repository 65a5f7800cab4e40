import Derived.Test.YtpdoacfiiledcaaGreatDoorV00
import Derived.Test.YtpdoacfiiledcaaGreatDoorV01
import Derived.Deep.LoopGhost
import Derived.Deep.RegionHeld3
import Derived.Deep.RegionLaw
import Derived.Deep.AppendLies
import Derived.Laws.ResultCell
import Derived.Laws.Rows
import Derived.Maps.AppendAt
import Derived.WalkSmall

namespace Go.Proofs.YtpdoacfiiledcaaGreatDoor
open Go.RowKit ChkM
open Pak (Kp)
set_option linter.unusedVariables false

theorem Tryz.info9a : (Tryz.prog.info? 9).map (fun i => (i.zero, i.size, i.bytes)) = some (some (.string ⟨#[]⟩), 1, 16) := by kernel_rfl

theorem pa_kp {w w' : World} {B : Nat} {s : ByteArray} {k : Nat} {S : List Nat} (h : Pa w B s k) (hk : Kp S w w') (hB : B ∉ S) : Pa w' B s k :=
  ⟨hk.cellv h.1 hB, hk.cellv h.2.1 hB, by rw [World.frozen?_of_block (w := w) (hk.block B (World.block_lt_of_cell? w _ h.1) hB)]; exact h.2.2⟩
theorem kp_grown {w w' : World} {B : Nat} (h : w.grownBy w' (some B)) : Kp [B] w w' := (Kp.refl _ _).grown h (fun k hk => .inl (by injection hk with hk; simp [hk]))

theorem kp_drew {S : List Nat} {a w : World} (h : Kp S a w) : Kp S a w.drew := ⟨h.os, h.tape, h.output, h.size, h.block⟩
theorem kp_append {wq w1 : World} {o : Obj} {row : Option Nat} (hg : (wq.alloc o).drew.grownBy w1 row) : Kp row.toList wq w1 :=
  (kp_drew ((Kp.refl _ wq).alloc o)).grown hg (fun k hk => .inl (by simp [hk]))
theorem kp_set (w : World) (Q j : Nat) (v : Value) : Kp [Q] w (w.setCell ⟨Q, j, none⟩ v) := (Kp.refl [Q] w).setCell (.inl (by simp)) _
/-- A box of a query: its kind, its words, its parts. -/
def Bx (w : World) (Q : Nat) (kd : Int) (wv pv : Value) : Prop := w.heap[Q]? = some (.cells #[.int .i64 kd, wv, pv] 139 (0, 0))
theorem bx_cells {w : World} {Q : Nat} {kd : Int} {wv pv : Value} (h : Bx w Q kd wv pv) :
    w.cell? ⟨Q, 0, none⟩ = some (.int .i64 kd) ∧ w.cell? ⟨Q, 1, none⟩ = some wv ∧ w.cell? ⟨Q, 2, none⟩ = some pv ∧ w.frozen? ⟨Q, 0, none⟩ = false ∧ w.frozen? ⟨Q, 1, none⟩ = false ∧ w.frozen? ⟨Q, 2, none⟩ = false := by
  unfold Bx at h
  simp [World.cell?, World.frozen?, h]

set_option maxHeartbeats 1000000 in
set_option maxRecDepth 100000 in
theorem wordq_any (s : ByteArray) (k B Q base n : Nat) (kd : Int) (wv pv : Value) (xs : List Value) (w : World) (hs : s.size ≤ 1000) (hk : k ≤ s.size) (hp : Pa w B s k)
    (hq : Bx w Q kd wv pv) (hown : w.ownsRow base 9 1 wv n xs) (hn : n ≤ 1000) (hB : B < base) (hQ : Q < base) (hBQ : B ≠ Q) (hbase : base ≤ w.heap.size) :
    Calls Tryz.prog 453 #[.pointer (some ⟨B, 0, none⟩), .pointer (some ⟨Q, 0, none⟩)] w fun e w' =>
      ∃ (k' n' : Nat) (wv' : Value) (xs' : List Value), e = .returned (.bool (wordP (s.data.toList.drop k)).1) ∧ k ≤ k' ∧ k' ≤ s.size ∧ (wordP (s.data.toList.drop k)).2 = s.data.toList.drop k' ∧ Pa w' B s k' ∧ Bx w' Q kd wv' pv
        ∧ w'.ownsRow base 9 1 wv' n' xs' ∧ n' ≤ n + 1 ∧ Kp (B :: Q :: wv.ownBlock.toList) w w' := by
  obtain ⟨i0, hi, hz0, hz1, hz2⟩ := info_parts Tryz.info9a
  have hp2 := hp.2.1
  replace hp := hide hp
  replace hq := hide hq
  replace hown := hide hown
  go_enter Tryz.func453, Tryz.ntmps453
  go_wp2_with fail
  clear hp2
  go_loopg [13] 8 (fun g u wr => ∃ m : Nat, g = 8 - m ∧ m ≤ 8 ∧ k + m ≤ s.size ∧ Hid (wordLen 8 (s.data.toList.drop k) = m + wordLen (8 - m) (s.data.toList.drop (k + m))) ∧ Pa wr B s (k + m) ∧ w.grownBy wr (some B))
  case atStart => exact ⟨0, rfl, by omega, by omega, by show _ = _; simp, hp.out, grown_refl _ _⟩
  case round =>
    obtain ⟨m, rfl, hm, hkm, hW, hP, hg⟩ := hrel
    have hp1 := hP.1
    have hp2 := hP.2.1
    have hp3 := hP.2.2
    rw [show ((k + m : Nat) : Int) = (k : Int) + (m : Int) by omega] at hp2
    have hkp := kp_grown hg
    have hne : ∀ g, wv.ownBlock = some g → g ∉ [B] := fun g hg' hx => by have := (hown.out.lt g hg').1; simp at hx; omega
    have F2 := hide (show Bx wr Q kd wv pv from hkp.heap hq.out (by simpa using hBQ.symm))
    have F3 := hide (hkp.owns hown.out hne)
    have F1 := hide hP
    have F4 := hide hkp
    have HG := hide hg
    clear hP hg hkp
    by_cases hlt : k + m < s.size
    case' pos =>
      have h1 : (k : Int) + (m : Int) < (s.size : Int) := by omega
      have h1' : (0 : Int) ≤ (k : Int) + (m : Int) := by omega
      rcases Nat.lt_or_ge m 8 with h8 | h8
      case' inl =>
        have h2 : (k : Int) + (m : Int) - (k : Int) < 8 := by omega
        have HH := hide (word_hit s k m hlt h8)
        have HM := hide (word_miss s k m hlt)
        cases hc : isSm s[k + m]
        case true =>
          go_wp2_with fail
          go_quiet ((go_at_call 356; exact Calls.quiet_of_same (small_any _ _)))
          go_wp2_with fail
          go_roundg (8 - (m + 1))
          case measure => omega
          case rel =>
            refine ⟨m + 1, rfl, by omega, by omega, by show _ = _; rw [hW.out, HH.out hc], ?_, grown_trans (grown_trans HG.out (grown_drewN _ _ _)) (grown_set _ _ _ _)⟩
            exact pa_set (pa_drewN F1.out _) (k + (m + 1))
        case' false =>
          have hz : Hid (wordLen 8 (s.data.toList.drop k) = m) := by show _ = _; rw [hW.out, HM.out hc]; rfl
          go_wp2_with fail
          go_quiet ((go_at_call 356; exact Calls.quiet_of_same (small_any _ _)))
          clear hc HH HM h2
      case' inr =>
        have h2 : decide ((k : Int) + (m : Int) - (k : Int) < 8) = false := by simp; omega
        have hz : Hid (wordLen 8 (s.data.toList.drop k) = m) := by show _ = _; rw [hW.out, show 8 - m = 0 by omega]; rfl
        go_wp2_with fail
        go_quiet (fail)
        clear h2 h8
    case' neg =>
      have h1 : decide ((k : Int) + (m : Int) < (s.size : Int)) = false := by simp; omega
      have HM := hide (word_end s k m hlt)
      have hz : Hid (wordLen 8 (s.data.toList.drop k) = m) := by show _ = _; rw [hW.out, HM.out]; rfl
      go_wp2_with fail
      go_quiet (fail)
      clear HM h1
    all_goals
      have f1 : Pa (wr.drewN nq) B s (k + m) := pa_drewN F1.out nq
      have f2 : Bx (wr.drewN nq) Q kd wv pv := F2.out
      have f3 : (wr.drewN nq).ownsRow base 9 1 wv n xs := F3.out
      have f4 : Kp [B] w (wr.drewN nq) := F4.out.drewN nq
      clear hW hp1 hp2 hp3 HG F1 F2 F3 F4 hp hq hown
      generalize wr.drewN nq = wq at f1 f2 f3 f4 ⊢
      rcases Nat.eq_zero_or_pos m with h0 | h0
      case inl =>
        have e0 : ((k : Int) + (m : Int) == (k : Int)) = true := by simp [h0]
        have c1 := f1.2.1
        rw [show ((k + m : Nat) : Int) = (k : Int) + (m : Int) by omega] at c1
        go_wp2_with fail
        go_ret
        rw [wordP_of s k m hz.out]
        exact ⟨k + m, n, wv, xs, ret_bool (by simp [h0]), by omega, by omega, rfl, f1, f2, f3, by omega, f4.mono (fun x hx => by simp at hx ⊢; exact .inl hx)⟩
      case inr =>
        have e0 : ((k : Int) + (m : Int) == (k : Int)) = false := by simp; omega
        have c0 := f1.1
        have c1 := f1.2.1
        rw [show ((k + m : Nat) : Int) = (k : Int) + (m : Int) by omega] at c1
        obtain ⟨_, d1, _, _, g1, _⟩ := bx_cells f2
        have hi0 : (0 : Int) ≤ (k : Int) := by omega
        have hi1 : (k : Int) ≤ (k : Int) + (m : Int) := by omega
        have hi2 : (k : Int) + (m : Int) ≤ (s.size : Int) := by omega
        have hi3 : ((k : Int) + (m : Int)).toNat = k + m := by omega
        have hsz : base ≤ wq.heap.size := Nat.le_trans hbase f4.size
        have HQo : Hid (Q ∉ wv.ownBlock.toList) := fun hx => by have := (f3.lt Q (by simpa using hx)).1; omega
        have HBo : Hid (B ∉ wv.ownBlock.toList) := fun hx => by have := (f3.lt B (by simpa using hx)).1; omega
        have d1' : ∀ o, (wq.alloc o).cell? ⟨Q, 1, none⟩ = some wv := fun o => by rw [World.cell?_alloc_past _ _ _ (World.block_lt_of_cell? wq _ d1)]; exact d1
        have HF3 := hide f3
        clear f3
        go_wp2_with fail
        go_region_law ((refine step_append_lies _ (by rfl) _ _ _ (by rfl) base 9 i0 _ 1 16 Tryz.underlying67 hi hz0 hz1 hz2 rfl (by omega) wv n xs (by rfl) ((HF3.out.alloc _).drew) ⟨wq.heap.size, 0, none⟩ 1 1 [.string (s.extract k (k + m))] (by rfl) (by rfl) (World.news_of_block (cs := #[.string (s.extract k (k + m))]) (t := 9) (fr := (0, 0)) (heap_alloc_new wq _)) (by simp [Value.oneCell']) (by omega) (by unfold maxLen; omega) (by omega) (by simp; omega) (wq.heap.size + 1) (by simp) ?_; intro g cap w1 hown1 hgrow hat hlt1; have k1 := kp_append hgrow; obtain ⟨_, x1, _, _, y1, _⟩ := bx_cells (show Bx w1 Q kd wv pv from k1.heap f2 HQo.out)))
        all_goals
          go_wp2_with fail
          go_ret
          rw [wordP_of s k m hz.out]
          have hb1 : Bx w1 Q kd wv pv := k1.heap f2 HQo.out
          refine ⟨k + m, n + 1, _, _, ret_bool (by simp; omega), by omega, by omega, rfl, pa_kp (pa_kp f1 k1 HBo.out) (kp_set w1 Q 1 _) (by simpa using hBQ), ?_, (kp_set w1 Q 1 _).owns hown1 (fun x hx hm' => by have := (hown1.lt x hx).1; simp at hm'; omega), by omega, ?_⟩
          · show (w1.setCell ⟨Q, 1, none⟩ _).heap[Q]? = _
            rw [heap_setCell_same w1 Q 1 _ 139 _ hb1]; rfl
          · refine ((f4.mono ?_).trans k1 ?_).trans (kp_set w1 Q 1 _) ?_
            · intro x hx; simp at hx ⊢; exact .inl hx
            · intro x hx; exact .inl (List.mem_cons_of_mem _ (List.mem_cons_of_mem _ hx))
            · intro x hx; simp at hx; subst hx; exact .inl (by simp)
end Go.Proofs.YtpdoacfiiledcaaGreatDoor

namespace Go.Proofs.YtpdoacfiiledcaaGreatDoor
open Go.RowKit ChkM
open Pak (Kp)
set_option linter.unusedVariables false

/-- A query's value: a kind, some words, some parts. -/
def Qv (v : Value) : Prop := ∃ (k : Int) (a : Option Addr) (n c : Nat) (a' : Option Addr) (n' c' : Nat), v = .agg #[.int .i64 k, .slice a n c, .slice a' n' c']
/-- What a reader of a query leaves. -/
def RQ (p : Bool × List UInt8) (B : Nat) (s : ByteArray) (k : Nat) (w : World) (e : Ending) (w' : World) : Prop :=
  ∃ (k' : Nat) (v : Value), e = .returned (.tuple #[v, .bool p.1]) ∧ Qv v ∧ k ≤ k' ∧ k' ≤ s.size ∧ p.2 = s.data.toList.drop k' ∧ Pa w' B s k' ∧ Kp [B] w w'

theorem take_num (n : Int) (c : UInt8) (hn : (c.toNat : Int) = n) (s : ByteArray) (k B : Nat) (w : World) (hs : s.size ≤ 1000) (hk : k ≤ s.size) (hp : Pa w B s k) :
    Calls Tryz.prog 377 #[.pointer (some ⟨B, 0, none⟩), .int .u8 n] w (Res (takeC c (s.data.toList.drop k)) B s k w) := by
  rw [← hn]; exact take_any c s k B w hs hk hp

theorem termP_false {l : List UInt8} (h : (wordP l).1 = false) : termP l = (false, (wordP l).2) := by unfold termP; rw [h]; rfl
theorem termP_true {l : List UInt8} (h : (wordP l).1 = true) : termP l = (true, (takeC 42 (wordP l).2).2) := by unfold termP; rw [h]; rfl

theorem load_query (w : World) (R0 : Nat) (kd : Int) (wv pv : Value) (hb : Bx w R0 kd wv pv) : (loadVar 139 ⟨R0, 0, none⟩).run Tryz.prog w = .ok (.agg #[.int .i64 kd, wv, pv]) w := by
  exact run_loadVar_row w R0 139 139 _ (0, 0) _ hb Tryz.underlying139 (by rfl) (by kernel_rfl)
theorem ret_query {fn : Func} {R : Ending → World → Prop} {a : Act} {w : World} {p u R0 : Nat} {kd : Int} {wv pv : Value} (hres : fn.results = #[.cell p 139, .tmp u])
    (hb : Bx w R0 kd wv pv) (hp : a.tmps.getD p undef = .pointer (some ⟨R0, 0, none⟩)) (hd : a.defers = []) (h : R (.returned (.tuple #[.agg #[.int .i64 kd, wv, pv], a.tmps.getD u undef])) w) : bodyPost Tryz.prog fn R .ret a w := by
  refine bodyPost_ret (v := .tuple #[.agg #[.int .i64 kd, wv, pv], a.tmps.getD u undef]) ?_ hd h
  rw [results_cell_tmp hres, hp]
  simp [asAddr, Result.andThen, load_query w R0 kd wv pv hb]
theorem bx_store3 {w : World} {R0 : Nat} {kd : Int} {wv pv : Value} (h : Bx w R0 kd wv pv) (kd' : Int) (a b : Value) : Bx (((w.setCell ⟨R0, 0, none⟩ (.int .i64 kd')).setCell ⟨R0, 1, none⟩ a).setCell ⟨R0, 2, none⟩ b) R0 kd' a b := by
  have e1 := heap_setCell_same w R0 0 _ 139 (.int .i64 kd') h
  have e2 := heap_setCell_same _ R0 1 _ 139 a e1
  have e3 := heap_setCell_same _ R0 2 _ 139 b e2
  show _ = _
  rw [e3]; rfl
theorem kp_store3 (w : World) (R0 : Nat) (a b c : Value) : Kp [R0] w (((w.setCell ⟨R0, 0, none⟩ a).setCell ⟨R0, 1, none⟩ b).setCell ⟨R0, 2, none⟩ c) :=
  (((Kp.refl [R0] w).setCell (.inl (by simp)) _).setCell (.inl (by simp)) _).setCell (.inl (by simp)) _
theorem bx_set0 {w : World} {Q : Nat} {kd : Int} {wv pv : Value} (h : Bx w Q kd wv pv) (kd' : Int) : Bx (w.setCell ⟨Q, 0, none⟩ (.int .i64 kd')) Q kd' wv pv := by
  show _ = _
  rw [heap_setCell_same w Q 0 _ 139 (.int .i64 kd') h]; rfl

abbrev nilQ : Array Value := #[.int .i64 0, .slice none 0 0, .slice none 0 0]
/-- Two new boxes: of the answer, and of the query that is read. -/
theorem two_boxes (s : ByteArray) (k B : Nat) (kd : Int) (w : World) (hp : Pa w B s k) : ∃ W, (w.alloc (.cells nilQ 139)).alloc (.cells #[.int .i64 kd, .slice none 0 0, .slice none 0 0] 139) = W ∧ Pa W B s k
    ∧ Bx W w.heap.size 0 (.slice none 0 0) (.slice none 0 0) ∧ Bx W (w.heap.size + 1) kd (.slice none 0 0) (.slice none 0 0) ∧ Kp [] w W ∧ W.heap.size = w.heap.size + 2 ∧ B < w.heap.size := by
  refine ⟨_, rfl, pa_kp hp (((Kp.refl [] w).alloc _).alloc _) (by simp), ?_, ?_, ((Kp.refl [] w).alloc _).alloc _, by simp, World.block_lt_of_cell? w _ hp.1⟩
  · show ((w.alloc _).alloc _).heap[w.heap.size]? = _
    rw [Below.heap_alloc _ _ _ (by simp)]
    exact heap_alloc_new w _
  · have := heap_alloc_new (w.alloc (.cells nilQ 139)) (.cells #[.int .i64 kd, .slice none 0 0, .slice none 0 0] 139)
    rw [World.size_alloc] at this
    exact this

set_option maxHeartbeats 400000 in
set_option maxRecDepth 100000 in
theorem term_any (s : ByteArray) (k B : Nat) (w : World) (hs : s.size ≤ 1000) (hk : k ≤ s.size) (hp : Pa w B s k) :
    Calls Tryz.prog 431 #[.pointer (some ⟨B, 0, none⟩)] w (RQ (termP (s.data.toList.drop k)) B s k w) := by
  replace hp := hide hp
  go_enter Tryz.func431, Tryz.ntmps431
  go_wp2_with fail
  obtain ⟨W, hW, pW, r0, q0, kW, hz, hB⟩ := two_boxes s k B 0 w hp.out
  clear hp
  rw [hW]
  clear hW
  refine (wordq_any s k B (w.heap.size + 1) (w.heap.size + 2) 0 0 _ _ [] W hs hk pW q0 (World.ownsRow_nil W _ _ _) (by omega) (by omega) (by omega) (by omega) (by omega)).mono ?_
  rintro e w1 ⟨k1, n1, wv1, xs1, rfl, h1, h2, hr, hP, hq1, hown1, hn1, hk1⟩
  have hk1' : Kp [B, w.heap.size + 1] W w1 := hk1.mono (fun x hx => by simpa [Value.ownBlock] using hx)
  have hr1 : Bx w1 w.heap.size 0 (.slice none 0 0) (.slice none 0 0) := hk1'.heap r0 (by simp; omega)
  obtain ⟨a1, c1, e1, _⟩ := Spl.owns_forms hown1
  have K1 : Kp [B] w w1 := (kW.mono (by simp)).trans hk1' (fun x hx => by simp at hx; rcases hx with rfl | rfl; exact .inl (by simp); exact .inr (by omega))
  have hlt1 := hk1'.size
  replace hr := hide hr
  replace hP := hide hP
  replace K1 := hide K1
  clear hk1 hk1' hown1 pW r0 q0 kW hn1
  subst e1
  cases hb : (wordP (List.drop k s.data.toList)).1
  · have HT := hide (termP_false hb)
    obtain ⟨x0, x1, x2, y0, y1, y2⟩ := bx_cells hr1
    have hR := hide hr1
    clear hr1 hq1
    go_wp2_with fail
    refine ret_query rfl (bx_store3 hR.out _ _ _) rfl rfl ?_
    rw [HT.out]
    exact ⟨k1, _, rfl, ⟨0, none, 0, 0, none, 0, 0, rfl⟩, h1, h2, hr.out, pa_kp hP.out (kp_store3 w1 _ _ _ _) (by simp; omega), K1.out.trans (kp_store3 w1 _ _ _ _) (fun x hx => by simp at hx; subst hx; exact .inr (Nat.le_refl _))⟩
  · have HT := hide (termP_true hb)
    have hR := hide hr1
    have hQ := hide hq1
    clear hr1 hq1
    go_wp2_with fail
    refine (take_num _ 42 rfl s k1 B _ hs h2 hP.out).mono ?_
    rintro e w2 ⟨k2, rfl, h3, h4, hr2, hP2, hg2⟩
    have kg := kp_grown hg2
    have r2 : Bx w2 w.heap.size 0 (.slice none 0 0) (.slice none 0 0) := kg.heap hR.out (by simp; omega)
    have q2 : Bx w2 (w.heap.size + 1) 0 (.slice a1 n1 c1) (.slice none 0 0) := kg.heap hQ.out (by simp; omega)
    have K2 := hide (K1.out.next kg)
    replace hr2 := hide hr2
    replace hP2 := hide hP2
    obtain ⟨x0, x1, x2, y0, y1, y2⟩ := bx_cells r2
    obtain ⟨u0, u1, u2, v0, _, _⟩ := bx_cells q2
    have hR2 := hide r2
    have hQ2 := hide q2
    clear r2 q2 kg hg2 hR hQ hP K1
    cases hb2 : (takeC 42 (List.drop k1 s.data.toList)).1
    · go_wp2_with fail
      refine ret_query rfl (bx_store3 hR2.out _ _ _) rfl rfl ?_
      rw [HT.out]
      exact ⟨k2, _, rfl, ⟨0, a1, n1, c1, none, 0, 0, rfl⟩, by omega, h4, by rw [hr.out]; exact hr2.out, pa_kp hP2.out (kp_store3 w2 _ _ _ _) (by simp; omega), K2.out.trans (kp_store3 w2 _ _ _ _) (fun x hx => by simp at hx; subst hx; exact .inr (Nat.le_refl _))⟩
    · go_wp2_with fail
      have r3 : Bx (w2.setCell ⟨w.heap.size + 1, 0, none⟩ (.int .i64 1)) w.heap.size 0 (.slice none 0 0) (.slice none 0 0) := (kp_set w2 (w.heap.size + 1) 0 _).heap hR2.out (by simp)
      refine ret_query rfl (bx_store3 r3 _ _ _) rfl rfl ?_
      rw [HT.out]
      have kk := (kp_set w2 (w.heap.size + 1) 0 (.int .i64 1)).mono (S' := [w.heap.size, w.heap.size + 1]) (by simp)
      have kk2 := kk.next ((kp_store3 (w2.setCell ⟨w.heap.size + 1, 0, none⟩ (.int .i64 1)) w.heap.size (.int .i64 1) (.slice a1 n1 c1) (.slice none 0 0)).mono (by simp))
      exact ⟨k2, _, rfl, ⟨1, a1, n1, c1, none, 0, 0, rfl⟩, by omega, h4, by rw [hr.out]; exact hr2.out, pa_kp hP2.out kk2 (by simp; omega), K2.out.trans kk2 (fun x hx => by simp at hx; rcases hx with rfl | rfl; exact .inr (Nat.le_refl _); exact .inr (by omega))⟩

theorem phraseP_false {f : Nat} {l : List UInt8} (h : (wordP l).1 = false) : phraseP (f + 1) l = (false, (wordP l).2) := by rw [phraseP, h]; rfl
theorem phraseP_end {f : Nat} {l : List UInt8} (h : (wordP l).1 = true) (h2 : (takeC 32 (wordP l).2).1 = false) : phraseP (f + 1) l = takeC 34 (wordP l).2 := by rw [phraseP, if_pos h, h2]; rfl
theorem phraseP_on {f : Nat} {l : List UInt8} (h : (wordP l).1 = true) (h2 : (takeC 32 (wordP l).2).1 = true) : phraseP (f + 1) l = phraseP f (takeC 32 (wordP l).2).2 := by rw [phraseP, if_pos h, if_pos h2]

theorem takeC_pos {c : UInt8} {s : ByteArray} {k k2 : Nat} (h : (takeC c (s.data.toList.drop k)).1 = true) (h2 : (takeC c (s.data.toList.drop k)).2 = s.data.toList.drop k2) (hk : k ≤ s.size) (hk2 : k2 ≤ s.size) : k2 = k + 1 := by
  have := (takeC_len c (s.data.toList.drop k)).2 h
  rw [h2, List.length_drop, List.length_drop] at this
  have hl : s.data.toList.length = s.size := by simp
  omega

set_option maxHeartbeats 1000000 in
set_option maxRecDepth 100000 in
theorem phrase_any (s : ByteArray) (k B f : Nat) (w : World) (hs : s.size ≤ 1000) (hk : k ≤ s.size) (hf : s.size - k < f) (hp : Pa w B s k) :
    Calls Tryz.prog 430 #[.pointer (some ⟨B, 0, none⟩)] w (RQ (phraseP f (s.data.toList.drop k)) B s k w) := by
  replace hp := hide hp
  go_enter Tryz.func430, Tryz.ntmps430
  go_wp2_with fail
  obtain ⟨W, hW, pW, r0, q0, kW, hz, hB⟩ := two_boxes s k B 2 w hp.out
  clear hp
  rw [hW]
  clear hW
  have PW := hide pW
  have RW := hide r0
  have QW := hide q0
  have KW := hide kW
  clear pW r0 q0 kW
  go_loopg [7] f (fun g u wr => ∃ (j n : Nat) (wv : Value) (xs : List Value), k ≤ j ∧ j ≤ s.size ∧ n ≤ j ∧ s.size - j < g ∧ Hid (phraseP f (s.data.toList.drop k) = phraseP g (s.data.toList.drop j)) ∧ Hid (Pa wr B s j) ∧ Hid (Bx wr w.heap.size 0 (.slice none 0 0) (.slice none 0 0)) ∧ Hid (Bx wr (w.heap.size + 1) 2 wv (.slice none 0 0)) ∧ Hid (wr.ownsRow (w.heap.size + 2) 9 1 wv n xs) ∧ Hid (Kp [B] w wr) ∧ w.heap.size + 2 ≤ wr.heap.size)
  case atStart => exact ⟨k, 0, _, [], by omega, by omega, by omega, by omega, rfl, PW, RW, QW, World.ownsRow_nil W _ _ _, KW.out.mono (by simp), by omega⟩
  case round =>
    obtain ⟨j, n, wv, xs, h1, h2, hnj, h3, hE, hP, hR, hQ, hO, hK, hsz⟩ := hrel
    obtain ⟨g, rfl⟩ : ∃ g, gk = g + 1 := ⟨gk - 1, by omega⟩
    go_wp2_with fail
    refine (wordq_any s j B (w.heap.size + 1) (w.heap.size + 2) n 2 wv _ xs _ hs h2 hP.out hQ.out hO.out (by omega) (by omega) (by omega) (by omega) (by omega)).mono ?_
    rintro e w1 ⟨k1, n1, wv1, xs1, rfl, a1, a2, hr, hP1, hq1, hown1, hn1, hk1⟩
    have hRo : w.heap.size ∉ B :: (w.heap.size + 1) :: wv.ownBlock.toList := by
      intro hx
      simp only [List.mem_cons, Option.mem_toList] at hx
      rcases hx with hx | hx | hx
      · omega
      · omega
      · have := (hO.out.lt _ hx).1; omega
    have r1 : Bx w1 w.heap.size 0 (.slice none 0 0) (.slice none 0 0) := hk1.heap hR.out hRo
    have K1 : Kp [B] w w1 := hK.out.trans hk1 (fun x hx => by
      simp only [List.mem_cons, Option.mem_toList] at hx
      rcases hx with rfl | rfl | hx
      · exact .inl (by simp)
      · exact .inr (by omega)
      · have := (hO.out.lt _ hx).1; exact .inr (by omega))
    have hsz1 : w.heap.size + 2 ≤ w1.heap.size := Nat.le_trans hsz hk1.size
    obtain ⟨b1, c1, e1, _⟩ := Spl.owns_forms hown1
    subst e1
    replace hr := hide hr
    replace hP1 := hide hP1
    replace K1 := hide K1
    have hR1 := hide r1
    have hQ1 := hide hq1
    have hO1 := hide hown1
    clear hR hQ hO hK hP hk1 r1 hq1 hown1 hRo
    cases hb : (wordP (List.drop j s.data.toList)).1
    · have HT := hide (phraseP_false (f := g) hb)
      obtain ⟨x0, x1, x2, y0, y1, y2⟩ := bx_cells hR1.out
      go_wp2_with fail
      refine ret_query rfl (bx_store3 hR1.out _ _ _) rfl rfl ?_
      rw [hE.out, HT.out]
      exact ⟨k1, _, rfl, ⟨0, none, 0, 0, none, 0, 0, rfl⟩, by omega, a2, hr.out, pa_kp hP1.out (kp_store3 w1 _ _ _ _) (by simp; omega), K1.out.trans (kp_store3 w1 _ _ _ _) (fun x hx => by simp at hx; subst hx; exact .inr (Nat.le_refl _))⟩
    · go_wp2_with fail
      refine (take_num _ 32 rfl s k1 B _ hs a2 hP1.out).mono ?_
      rintro e w2 ⟨k2, rfl, b1', b2, hr2, hP2, hg2⟩
      have kg := kp_grown hg2
      have r2 : Bx w2 w.heap.size 0 (.slice none 0 0) (.slice none 0 0) := kg.heap hR1.out (by simp; omega)
      have q2 : Bx w2 (w.heap.size + 1) 2 (.slice b1 n1 c1) (.slice none 0 0) := kg.heap hQ1.out (by simp; omega)
      have o2 := kg.owns hO1.out (fun x hx hm => by have := (hO1.out.lt x hx).1; simp at hm; omega)
      have K2 := hide (K1.out.next kg)
      have hsz2 : w.heap.size + 2 ≤ w2.heap.size := Nat.le_trans hsz1 kg.size
      replace hr2 := hide hr2
      replace hP2 := hide hP2
      have hR2 := hide r2
      have hQ2 := hide q2
      have hO2 := hide o2
      clear r2 q2 o2 kg hg2 hR1 hQ1 hO1 hP1 K1
      cases hc : (takeC 32 (List.drop k1 s.data.toList)).1
      · have HT := hide (phraseP_end (f := g) hb (by rw [hr.out]; exact hc))
        have hk2 : Hid (List.drop k2 s.data.toList = List.drop k1 s.data.toList) := by
          show _ = _
          rw [← hr2.out]; exact (takeC_no hc).1
        obtain ⟨x0, x1, x2, y0, y1, y2⟩ := bx_cells hR2.out
        obtain ⟨u0, u1, u2, v0, _, _⟩ := bx_cells hQ2.out
        go_wp2_with fail
        go_region_held3 (fun w' => w'.cell? ⟨w.heap.size + 1, 0, none⟩ = some (.int .i64 2) ∧ w'.cell? ⟨w.heap.size + 1, 1, none⟩ = some (.slice b1 n1 c1) ∧ w'.cell? ⟨w.heap.size + 1, 2, none⟩ = some (.slice none 0 0)) (first | go_keep | exact ⟨z0, z1, z2⟩) ((first | (go_at_call 377; refine (take_num 34 34 rfl s k2 B w2.drew hs b2 hP2.out).mono ?_; rintro e w3 ⟨k3, rfl, c1', c2', hr3, hP3, hg3⟩; have kg3 := kp_grown hg3; obtain ⟨z0, z1, z2, _, _, _⟩ := bx_cells (show Bx w3 (w.heap.size + 1) 2 (.slice b1 n1 c1) (.slice none 0 0) from kg3.heap hQ2.out (by simp; omega)); obtain ⟨q0, q1, q2, p0, p1, p2⟩ := bx_cells (show Bx w3 w.heap.size 0 (.slice none 0 0) (.slice none 0 0) from kg3.heap hR2.out (by simp; omega)))))
        all_goals
          go_wp2_with fail
          refine ret_query rfl (bx_store3 (show Bx w3 w.heap.size 0 (.slice none 0 0) (.slice none 0 0) from kg3.heap hR2.out (by simp; omega)) _ _ _) rfl rfl ?_
          rw [hE.out, HT.out, hr.out, ← hk2.out]
          exact ⟨k3, _, rfl, ⟨2, b1, n1, c1, none, 0, 0, rfl⟩, by omega, c2', hr3, pa_kp hP3 (kp_store3 w3 _ _ _ _) (by simp; omega), ((kp_drew K2.out).next kg3).trans (kp_store3 w3 _ _ _ _) (fun x hx => by simp at hx; subst hx; exact .inr (Nat.le_refl _))⟩
      · have HT := hide (phraseP_on (f := g) hb (by rw [hr.out]; exact hc))
        have hpos := takeC_pos hc hr2.out a2 b2
        go_wp2_with fail
        go_roundg g
        case measure => omega
        case rel => exact ⟨k2, n1, _, xs1, by omega, b2, by omega, by omega, by show _ = _; rw [hE.out, HT.out, hr.out, hr2.out], hP2, hR2, hQ2, hO2, K2, hsz2⟩
end Go.Proofs.YtpdoacfiiledcaaGreatDoor

namespace Go.Proofs.YtpdoacfiiledcaaGreatDoor
open Go.RowKit ChkM
open Pak (Kp)
set_option linter.unusedVariables false

theorem info135 : (Tryz.prog.info? 139).map (fun i => (i.zero, i.size, i.bytes)) = some (some (.agg #[.int .i64 0, .slice none 0 0, .slice none 0 0]), 3, 56) := by kernel_rfl

/-- What a reader of the descent does, with fuel f: function F for the kind tag. -/
def CD (F tag f : Nat) : Prop := ∀ (s : ByteArray) (k B d : Nat) (w : World), s.size ≤ 1000 → k ≤ s.size → 3 * (s.size - k) + tag + 1 ≤ f → d ≤ 1000 → Pa w B s k →
  Calls Tryz.prog F #[.pointer (some ⟨B, 0, none⟩), .int .i64 d] w (RQ (ps f tag d (s.data.toList.drop k)) B s k w)

theorem all_false {f d : Nat} {l : List UInt8} (h : (ps f 0 d l).1 = false) : ps (f + 1) 1 d l = (false, (ps f 0 d l).2) := by rw [ps, h]; rfl
theorem all_end {f d : Nat} {l : List UInt8} (h : (ps f 0 d l).1 = true) (h2 : (takeC 38 (ps f 0 d l).2).1 = false) : ps (f + 1) 1 d l = (true, (ps f 0 d l).2) := by rw [ps, if_pos h, h2]; rfl
theorem all_on {f d : Nat} {l : List UInt8} (h : (ps f 0 d l).1 = true) (h2 : (takeC 38 (ps f 0 d l).2).1 = true) : ps (f + 1) 1 d l = ps f 1 d (takeC 38 (ps f 0 d l).2).2 := by rw [ps, if_pos h, if_pos h2]
theorem query_false {f d : Nat} {l : List UInt8} (h : (ps f 1 d l).1 = false) : ps (f + 1) 2 d l = (false, (ps f 1 d l).2) := by rw [ps, h]; rfl
theorem query_end {f d : Nat} {l : List UInt8} (h : (ps f 1 d l).1 = true) (h2 : (takeC 124 (ps f 1 d l).2).1 = false) : ps (f + 1) 2 d l = (true, (ps f 1 d l).2) := by rw [ps, if_pos h, h2]; rfl
theorem query_on {f d : Nat} {l : List UInt8} (h : (ps f 1 d l).1 = true) (h2 : (takeC 124 (ps f 1 d l).2).1 = true) : ps (f + 1) 2 d l = ps f 2 d (takeC 124 (ps f 1 d l).2).2 := by rw [ps, if_pos h, if_pos h2]
/-- The sign between the parts of a kind. -/
def Sg (tag : Nat) (c : UInt8) : Prop := (tag = 0 ∧ c = 38) ∨ (tag = 1 ∧ c = 124)
theorem sev_false {tag f d : Nat} {c : UInt8} {l : List UInt8} (hs : Sg tag c) (h : (ps f tag d l).1 = false) : ps (f + 1) (tag + 1) d l = (false, (ps f tag d l).2) := by
  rcases hs with ⟨rfl, rfl⟩ | ⟨rfl, rfl⟩
  · exact all_false h
  · exact query_false h
theorem sev_end {tag f d : Nat} {c : UInt8} {l : List UInt8} (hs : Sg tag c) (h : (ps f tag d l).1 = true) (h2 : (takeC c (ps f tag d l).2).1 = false) : ps (f + 1) (tag + 1) d l = (true, (ps f tag d l).2) := by
  rcases hs with ⟨rfl, rfl⟩ | ⟨rfl, rfl⟩
  · exact all_end h h2
  · exact query_end h h2
theorem sev_on {tag f d : Nat} {c : UInt8} {l : List UInt8} (hs : Sg tag c) (h : (ps f tag d l).1 = true) (h2 : (takeC c (ps f tag d l).2).1 = true) : ps (f + 1) (tag + 1) d l = ps f (tag + 1) d (takeC c (ps f tag d l).2).2 := by
  rcases hs with ⟨rfl, rfl⟩ | ⟨rfl, rfl⟩
  · exact all_on h h2
  · exact query_on h h2

/-- A box's cells, behind one more block. -/
theorem bx_past {w : World} {Q : Nat} {kd : Int} {wv pv : Value} (h : Bx w Q kd wv pv) (o : Obj) : Bx (w.alloc o) Q kd wv pv := ((Kp.refl [] w).alloc o).heap h (by simp)
theorem bx_cells_past {w : World} {Q : Nat} {kd : Int} {wv pv : Value} (h : Bx w Q kd wv pv) :
    (∀ o, (w.alloc o).cell? ⟨Q, 0, none⟩ = some (.int .i64 kd)) ∧ (∀ o, (w.alloc o).cell? ⟨Q, 1, none⟩ = some wv) ∧ (∀ o, (w.alloc o).cell? ⟨Q, 2, none⟩ = some pv) ∧ (∀ o, (w.alloc o).frozen? ⟨Q, 0, none⟩ = false) ∧ (∀ o, (w.alloc o).frozen? ⟨Q, 1, none⟩ = false) ∧ (∀ o, (w.alloc o).frozen? ⟨Q, 2, none⟩ = false) :=
  ⟨fun o => (bx_cells (bx_past h o)).1, fun o => (bx_cells (bx_past h o)).2.1, fun o => (bx_cells (bx_past h o)).2.2.1, fun o => (bx_cells (bx_past h o)).2.2.2.1, fun o => (bx_cells (bx_past h o)).2.2.2.2.1, fun o => (bx_cells (bx_past h o)).2.2.2.2.2⟩

set_option maxHeartbeats 1000000 in
set_option maxRecDepth 100000 in
theorem several_299 (tag f : Nat) (c : UInt8) (kd : Int) (hsg : Sg tag c) (htag : tag ≤ 1) (ih : ∀ g, g < f → CD 378 tag g) (s : ByteArray) (k B d : Nat) (w : World) (hs : s.size ≤ 1000) (hk : k ≤ s.size) (hf : 3 * (s.size - k) + (tag + 1) + 1 ≤ f) (hd : d ≤ 1000) (hp : Pa w B s k) :
    Calls Tryz.prog 316 #[.pointer (some ⟨B, 0, none⟩), .int .i64 kd, .int .u8 c.toNat, .func (.func 378) #[.pointer (some ⟨B, 0, none⟩)] #[], .int .i64 d] w (RQ (ps f (tag + 1) d (s.data.toList.drop k)) B s k w) := by
  obtain ⟨i0, hi, hz0, hz1, hz2⟩ := info_parts info135
  replace hp := hide hp
  replace ih := hide ih
  replace hsg := hide hsg
  go_enter Tryz.func316, Tryz.ntmps316
  go_wp2_with fail
  obtain ⟨W, hW, pW, r0, q0, kW, hz, hB⟩ := two_boxes s k B kd w hp.out
  clear hp
  rw [hW]
  clear hW
  have PW := hide pW
  have RW := hide r0
  have QW := hide q0
  have KW := hide kW
  clear pW r0 q0 kW
  go_loopg [20] f (fun g u wr => ∃ (j n : Nat) (pv : Value) (xs : List Value), g ≤ f ∧ k ≤ j ∧ j ≤ s.size ∧ n ≤ j ∧ 3 * (s.size - j) + (tag + 1) + 1 ≤ g ∧ Hid (ps f (tag + 1) d (s.data.toList.drop k) = ps g (tag + 1) d (s.data.toList.drop j)) ∧ Hid (Pa wr B s j) ∧ Hid (Bx wr w.heap.size 0 (.slice none 0 0) (.slice none 0 0)) ∧ Hid (Bx wr (w.heap.size + 1) kd (.slice none 0 0) pv) ∧ Hid (wr.ownsRow (w.heap.size + 2) 139 3 pv n xs) ∧ Hid (Kp [B] w wr) ∧ w.heap.size + 2 ≤ wr.heap.size)
  case atStart => exact ⟨k, 0, _, [], by omega, by omega, by omega, by omega, by omega, rfl, PW, RW, QW, World.ownsRow_nil W _ _ _, KW.out.mono (by simp), by omega⟩
  case round =>
    obtain ⟨j, n, pv, xs, h0, h1, h2, hnj, h3, hE, hP, hR, hQ, hO, hK, hsz⟩ := hrel
    obtain ⟨g, rfl⟩ : ∃ g, gk = g + 1 := ⟨gk - 1, by omega⟩
    go_wp2_with fail
    refine (ih.out g (by omega) s j B d _ hs h2 (by omega) hd hP.out).mono ?_
    rintro e w1 ⟨k1, v, rfl, ⟨kd1, a1, n1, c1, a2, n2, c2, rfl⟩, b1, b2, hr, hP1, hk1⟩
    have r1 : Bx w1 w.heap.size 0 (.slice none 0 0) (.slice none 0 0) := hk1.heap hR.out (by simp; omega)
    have q1 : Bx w1 (w.heap.size + 1) kd (.slice none 0 0) pv := hk1.heap hQ.out (by simp; omega)
    have o1 := hk1.owns hO.out (fun x hx hm => by have := (hO.out.lt x hx).1; simp at hm; omega)
    have K1 := hide (hK.out.next hk1)
    have hsz1 : w.heap.size + 2 ≤ w1.heap.size := Nat.le_trans hsz hk1.size
    replace hr := hide hr
    replace hP1 := hide hP1
    have hR1 := hide r1
    have hQ1 := hide q1
    have hO1 := hide o1
    clear hR hQ hO hK hP hk1 r1 q1 o1
    cases hb : (ps g tag d (List.drop j s.data.toList)).1
    · have HT := hide (sev_false hsg.out hb)
      obtain ⟨x0, x1, x2, y0, y1, y2⟩ := bx_cells hR1.out
      obtain ⟨x0', x1', x2', y0', y1', y2'⟩ := bx_cells_past hR1.out
      go_wp2_with fail
      refine ret_query rfl (bx_store3 (bx_past hR1.out _) _ _ _) rfl rfl ?_
      rw [hE.out, HT.out]
      exact ⟨k1, _, rfl, ⟨0, none, 0, 0, none, 0, 0, rfl⟩, by omega, b2, hr.out, pa_kp (pa_kp hP1.out ((Kp.refl [] w1).alloc _) (by simp)) (kp_store3 _ _ _ _ _) (by simp; omega), (K1.out.alloc _).trans (kp_store3 _ _ _ _ _) (fun x hx => by simp at hx; subst hx; exact .inr (Nat.le_refl _))⟩
    · obtain ⟨_, _, u2', _, _, _⟩ := bx_cells_past hQ1.out
      have hQo : w.heap.size + 1 ∉ pv.ownBlock.toList := fun hx => by have := (hO1.out.lt _ (by simpa using hx)).1; omega
      have hRo : w.heap.size ∉ pv.ownBlock.toList := fun hx => by have := (hO1.out.lt _ (by simpa using hx)).1; omega
      have hBo : B ∉ pv.ownBlock.toList := fun hx => by have := (hO1.out.lt _ (by simpa using hx)).1; omega
      have HQo := hide hQo
      have HRo := hide hRo
      have HBo := hide hBo
      clear hQo hRo hBo
      go_wp2_with (first
        | (at_builtin; refine wpList_append_own_at _ rfl _ _ 137 rfl (w.heap.size + 2) 139 i0 (.agg #[.int .i64 0, .slice none 0 0, .slice none 0 0]) 3 56 Tryz.underlying137 hi hz0 hz1 hz2 rfl (by decide) _ _ _ rfl ((hO1.out.alloc _).alloc _) ⟨w1.heap.size + 1, 0, none⟩ 1 1 [.int .i64 kd1, .slice a1 n1 c1, .slice a2 n2 c2] rfl rfl (World.news_of_block (cs := #[.int .i64 kd1, .slice a1 n1 c1, .slice a2 n2 c2]) (t := 139) (fr := (0, 0)) (by have := heap_alloc_new (w1.alloc (.cells #[.int .i64 kd1, .slice a1 n1 c1, .slice a2 n2 c2] 139)) (.cells #[.int .i64 kd1, .slice a1 n1 c1, .slice a2 n2 c2] 139); simpa using this)) ?c2 ?c3 ?c4 ?c5 ?_)
        | fail)
      case c2 => intro u hu; simp at hu; rcases hu with rfl | rfl | rfl <;> rfl
      case c3 => unfold maxLen; omega
      case c4 => omega
      case c5 => simp; omega
      intro v' w2 hown2 hgrow2 _ hloc
      have k2 : Kp pv.ownBlock.toList w1 w2 := (((Kp.refl _ w1).alloc _).alloc _).grown hgrow2 (fun x hx => .inl (by simp [hx]))
      have q2 : Bx w2 (w.heap.size + 1) kd (.slice none 0 0) pv := k2.heap hQ1.out HQo.out
      obtain ⟨_, _, z2, _, _, f2⟩ := bx_cells q2
      have hlt := (hown2.lt)
      have E3 : ∃ w3, w2.setCell ⟨w.heap.size + 1, 2, none⟩ v' = w3 ∧ Pa w3 B s k1 ∧ Bx w3 w.heap.size 0 (.slice none 0 0) (.slice none 0 0) ∧ Bx w3 (w.heap.size + 1) kd (.slice none 0 0) v' ∧ w3.ownsRow (w.heap.size + 2) 139 3 v' (n + 1) (xs ++ [.int .i64 kd1, .slice a1 n1 c1, .slice a2 n2 c2]) ∧ Kp [B] w w3 ∧ w.heap.size + 2 ≤ w3.heap.size := by
        have ks := kp_set w2 (w.heap.size + 1) 2 v'
        refine ⟨_, rfl, pa_kp (pa_kp hP1.out k2 HBo.out) ks (by simp; omega), ks.heap (k2.heap hR1.out HRo.out) (by simp), ?_, ks.owns hown2 (fun x hx hm => by have := (hown2.lt x hx).1; simp at hm; omega), (K1.out.trans k2 ?_).trans ks ?_, Nat.le_trans hsz1 (Nat.le_trans k2.size ks.size)⟩
        · show (w2.setCell ⟨_, 2, none⟩ v').heap[_]? = _
          rw [heap_setCell_same w2 (w.heap.size + 1) 2 _ 139 v' q2]; rfl
        · intro x hx
          have := (hO1.out.lt x (by simpa using hx)).1
          exact .inr (by omega)
        · intro x hx; simp at hx; subst hx; exact .inr (by omega)
      have HE3 := hide E3
      obtain ⟨a3, c3, e3, _⟩ := Spl.owns_forms hown2
      subst e3
      clear E3 hlt hown2 hgrow2 hloc k2 q2 u2' HQo HRo HBo hO1 hQ1 hR1 hP1 K1
      go_wp2_with fail
      obtain ⟨w3, e3, p3, r3, q3, o3, K3, hsz3⟩ := HE3.out
      rw [e3]
      clear e3 HE3 z2 f2
      refine (take_any c s k1 B w3 hs b2 p3).mono ?_
      rintro e w4 ⟨k2, rfl, b3, b4, hr2, hP2, hg2⟩
      have kg := kp_grown hg2
      have r4 : Bx w4 w.heap.size 0 (.slice none 0 0) (.slice none 0 0) := kg.heap r3 (by simp; omega)
      have q4 : Bx w4 (w.heap.size + 1) kd (.slice none 0 0) (.slice a3 (n + 1) c3) := kg.heap q3 (by simp; omega)
      have o4 := kg.owns o3 (fun x hx hm => by have := (o3.lt x hx).1; simp at hm; omega)
      have K4 := hide (K3.next kg)
      have hsz4 : w.heap.size + 2 ≤ w4.heap.size := Nat.le_trans hsz3 kg.size
      replace hr2 := hide hr2
      replace hP2 := hide hP2
      have hR4 := hide r4
      have hQ4 := hide q4
      have hO4 := hide o4
      clear r4 q4 o4 kg hg2 r3 q3 o3 p3 K3
      cases hc : (takeC c (List.drop k1 s.data.toList)).1
      · have HT := hide (sev_end hsg.out hb (by rw [hr.out]; exact hc))
        have hk2 : Hid (List.drop k2 s.data.toList = List.drop k1 s.data.toList) := by
          show _ = _
          rw [← hr2.out]; exact (takeC_no hc).1
        obtain ⟨x0, x1, x2, y0, y1, y2⟩ := bx_cells hR4.out
        obtain ⟨u0, u1, u2, _, _, _⟩ := bx_cells hQ4.out
        go_wp2_with fail
        refine ret_query rfl (bx_store3 hR4.out _ _ _) rfl rfl ?_
        rw [hE.out, HT.out]
        exact ⟨k2, _, rfl, ⟨kd, none, 0, 0, a3, n + 1, c3, rfl⟩, by omega, b4, by show (ps g tag d (List.drop j s.data.toList)).2 = _; rw [hr.out, hk2.out], pa_kp hP2.out (kp_store3 w4 _ _ _ _) (by simp; omega), K4.out.trans (kp_store3 w4 _ _ _ _) (fun x hx => by simp at hx; subst hx; exact .inr (Nat.le_refl _))⟩
      · have HT := hide (sev_on hsg.out hb (by rw [hr.out]; exact hc))
        have hpos := takeC_pos hc hr2.out b2 b4
        go_wp2_with fail
        go_roundg g
        case measure => omega
        case rel => exact ⟨k2, n + 1, _, _, by omega, by omega, b4, by omega, by omega, by show _ = _; rw [hE.out, HT.out, hr.out, hr2.out], hP2, hR4, hQ4, hO4, K4, hsz4⟩
end Go.Proofs.YtpdoacfiiledcaaGreatDoor

namespace Go.Proofs.YtpdoacfiiledcaaGreatDoor
open Go.RowKit ChkM
open Pak (Kp)
set_option linter.unusedVariables false

set_option maxHeartbeats 1000000 in
set_option maxRecDepth 100000 in
theorem several_247 (tag f : Nat) (c : UInt8) (kd : Int) (hsg : Sg tag c) (htag : tag ≤ 1) (ih : ∀ g, g < f → CD 317 tag g) (s : ByteArray) (k B d : Nat) (w : World) (hs : s.size ≤ 1000) (hk : k ≤ s.size) (hf : 3 * (s.size - k) + (tag + 1) + 1 ≤ f) (hd : d ≤ 1000) (hp : Pa w B s k) :
    Calls Tryz.prog 316 #[.pointer (some ⟨B, 0, none⟩), .int .i64 kd, .int .u8 c.toNat, .func (.func 317) #[.pointer (some ⟨B, 0, none⟩)] #[], .int .i64 d] w (RQ (ps f (tag + 1) d (s.data.toList.drop k)) B s k w) := by
  obtain ⟨i0, hi, hz0, hz1, hz2⟩ := info_parts info135
  replace hp := hide hp
  replace ih := hide ih
  replace hsg := hide hsg
  go_enter Tryz.func316, Tryz.ntmps316
  go_wp2_with fail
  obtain ⟨W, hW, pW, r0, q0, kW, hz, hB⟩ := two_boxes s k B kd w hp.out
  clear hp
  rw [hW]
  clear hW
  have PW := hide pW
  have RW := hide r0
  have QW := hide q0
  have KW := hide kW
  clear pW r0 q0 kW
  go_loopg [20] f (fun g u wr => ∃ (j n : Nat) (pv : Value) (xs : List Value), g ≤ f ∧ k ≤ j ∧ j ≤ s.size ∧ n ≤ j ∧ 3 * (s.size - j) + (tag + 1) + 1 ≤ g ∧ Hid (ps f (tag + 1) d (s.data.toList.drop k) = ps g (tag + 1) d (s.data.toList.drop j)) ∧ Hid (Pa wr B s j) ∧ Hid (Bx wr w.heap.size 0 (.slice none 0 0) (.slice none 0 0)) ∧ Hid (Bx wr (w.heap.size + 1) kd (.slice none 0 0) pv) ∧ Hid (wr.ownsRow (w.heap.size + 2) 139 3 pv n xs) ∧ Hid (Kp [B] w wr) ∧ w.heap.size + 2 ≤ wr.heap.size)
  case atStart => exact ⟨k, 0, _, [], by omega, by omega, by omega, by omega, by omega, rfl, PW, RW, QW, World.ownsRow_nil W _ _ _, KW.out.mono (by simp), by omega⟩
  case round =>
    obtain ⟨j, n, pv, xs, h0, h1, h2, hnj, h3, hE, hP, hR, hQ, hO, hK, hsz⟩ := hrel
    obtain ⟨g, rfl⟩ : ∃ g, gk = g + 1 := ⟨gk - 1, by omega⟩
    go_wp2_with fail
    refine (ih.out g (by omega) s j B d _ hs h2 (by omega) hd hP.out).mono ?_
    rintro e w1 ⟨k1, v, rfl, ⟨kd1, a1, n1, c1, a2, n2, c2, rfl⟩, b1, b2, hr, hP1, hk1⟩
    have r1 : Bx w1 w.heap.size 0 (.slice none 0 0) (.slice none 0 0) := hk1.heap hR.out (by simp; omega)
    have q1 : Bx w1 (w.heap.size + 1) kd (.slice none 0 0) pv := hk1.heap hQ.out (by simp; omega)
    have o1 := hk1.owns hO.out (fun x hx hm => by have := (hO.out.lt x hx).1; simp at hm; omega)
    have K1 := hide (hK.out.next hk1)
    have hsz1 : w.heap.size + 2 ≤ w1.heap.size := Nat.le_trans hsz hk1.size
    replace hr := hide hr
    replace hP1 := hide hP1
    have hR1 := hide r1
    have hQ1 := hide q1
    have hO1 := hide o1
    clear hR hQ hO hK hP hk1 r1 q1 o1
    cases hb : (ps g tag d (List.drop j s.data.toList)).1
    · have HT := hide (sev_false hsg.out hb)
      obtain ⟨x0, x1, x2, y0, y1, y2⟩ := bx_cells hR1.out
      obtain ⟨x0', x1', x2', y0', y1', y2'⟩ := bx_cells_past hR1.out
      go_wp2_with fail
      refine ret_query rfl (bx_store3 (bx_past hR1.out _) _ _ _) rfl rfl ?_
      rw [hE.out, HT.out]
      exact ⟨k1, _, rfl, ⟨0, none, 0, 0, none, 0, 0, rfl⟩, by omega, b2, hr.out, pa_kp (pa_kp hP1.out ((Kp.refl [] w1).alloc _) (by simp)) (kp_store3 _ _ _ _ _) (by simp; omega), (K1.out.alloc _).trans (kp_store3 _ _ _ _ _) (fun x hx => by simp at hx; subst hx; exact .inr (Nat.le_refl _))⟩
    · obtain ⟨_, _, u2', _, _, _⟩ := bx_cells_past hQ1.out
      have hQo : w.heap.size + 1 ∉ pv.ownBlock.toList := fun hx => by have := (hO1.out.lt _ (by simpa using hx)).1; omega
      have hRo : w.heap.size ∉ pv.ownBlock.toList := fun hx => by have := (hO1.out.lt _ (by simpa using hx)).1; omega
      have hBo : B ∉ pv.ownBlock.toList := fun hx => by have := (hO1.out.lt _ (by simpa using hx)).1; omega
      have HQo := hide hQo
      have HRo := hide hRo
      have HBo := hide hBo
      clear hQo hRo hBo
      go_wp2_with (first
        | (at_builtin; refine wpList_append_own_at _ rfl _ _ 137 rfl (w.heap.size + 2) 139 i0 (.agg #[.int .i64 0, .slice none 0 0, .slice none 0 0]) 3 56 Tryz.underlying137 hi hz0 hz1 hz2 rfl (by decide) _ _ _ rfl ((hO1.out.alloc _).alloc _) ⟨w1.heap.size + 1, 0, none⟩ 1 1 [.int .i64 kd1, .slice a1 n1 c1, .slice a2 n2 c2] rfl rfl (World.news_of_block (cs := #[.int .i64 kd1, .slice a1 n1 c1, .slice a2 n2 c2]) (t := 139) (fr := (0, 0)) (by have := heap_alloc_new (w1.alloc (.cells #[.int .i64 kd1, .slice a1 n1 c1, .slice a2 n2 c2] 139)) (.cells #[.int .i64 kd1, .slice a1 n1 c1, .slice a2 n2 c2] 139); simpa using this)) ?c2 ?c3 ?c4 ?c5 ?_)
        | fail)
      case c2 => intro u hu; simp at hu; rcases hu with rfl | rfl | rfl <;> rfl
      case c3 => unfold maxLen; omega
      case c4 => omega
      case c5 => simp; omega
      intro v' w2 hown2 hgrow2 _ hloc
      have k2 : Kp pv.ownBlock.toList w1 w2 := (((Kp.refl _ w1).alloc _).alloc _).grown hgrow2 (fun x hx => .inl (by simp [hx]))
      have q2 : Bx w2 (w.heap.size + 1) kd (.slice none 0 0) pv := k2.heap hQ1.out HQo.out
      obtain ⟨_, _, z2, _, _, f2⟩ := bx_cells q2
      have hlt := (hown2.lt)
      have E3 : ∃ w3, w2.setCell ⟨w.heap.size + 1, 2, none⟩ v' = w3 ∧ Pa w3 B s k1 ∧ Bx w3 w.heap.size 0 (.slice none 0 0) (.slice none 0 0) ∧ Bx w3 (w.heap.size + 1) kd (.slice none 0 0) v' ∧ w3.ownsRow (w.heap.size + 2) 139 3 v' (n + 1) (xs ++ [.int .i64 kd1, .slice a1 n1 c1, .slice a2 n2 c2]) ∧ Kp [B] w w3 ∧ w.heap.size + 2 ≤ w3.heap.size := by
        have ks := kp_set w2 (w.heap.size + 1) 2 v'
        refine ⟨_, rfl, pa_kp (pa_kp hP1.out k2 HBo.out) ks (by simp; omega), ks.heap (k2.heap hR1.out HRo.out) (by simp), ?_, ks.owns hown2 (fun x hx hm => by have := (hown2.lt x hx).1; simp at hm; omega), (K1.out.trans k2 ?_).trans ks ?_, Nat.le_trans hsz1 (Nat.le_trans k2.size ks.size)⟩
        · show (w2.setCell ⟨_, 2, none⟩ v').heap[_]? = _
          rw [heap_setCell_same w2 (w.heap.size + 1) 2 _ 139 v' q2]; rfl
        · intro x hx
          have := (hO1.out.lt x (by simpa using hx)).1
          exact .inr (by omega)
        · intro x hx; simp at hx; subst hx; exact .inr (by omega)
      have HE3 := hide E3
      obtain ⟨a3, c3, e3, _⟩ := Spl.owns_forms hown2
      subst e3
      clear E3 hlt hown2 hgrow2 hloc k2 q2 u2' HQo HRo HBo hO1 hQ1 hR1 hP1 K1
      go_wp2_with fail
      obtain ⟨w3, e3, p3, r3, q3, o3, K3, hsz3⟩ := HE3.out
      rw [e3]
      clear e3 HE3 z2 f2
      refine (take_any c s k1 B w3 hs b2 p3).mono ?_
      rintro e w4 ⟨k2, rfl, b3, b4, hr2, hP2, hg2⟩
      have kg := kp_grown hg2
      have r4 : Bx w4 w.heap.size 0 (.slice none 0 0) (.slice none 0 0) := kg.heap r3 (by simp; omega)
      have q4 : Bx w4 (w.heap.size + 1) kd (.slice none 0 0) (.slice a3 (n + 1) c3) := kg.heap q3 (by simp; omega)
      have o4 := kg.owns o3 (fun x hx hm => by have := (o3.lt x hx).1; simp at hm; omega)
      have K4 := hide (K3.next kg)
      have hsz4 : w.heap.size + 2 ≤ w4.heap.size := Nat.le_trans hsz3 kg.size
      replace hr2 := hide hr2
      replace hP2 := hide hP2
      have hR4 := hide r4
      have hQ4 := hide q4
      have hO4 := hide o4
      clear r4 q4 o4 kg hg2 r3 q3 o3 p3 K3
      cases hc : (takeC c (List.drop k1 s.data.toList)).1
      · have HT := hide (sev_end hsg.out hb (by rw [hr.out]; exact hc))
        have hk2 : Hid (List.drop k2 s.data.toList = List.drop k1 s.data.toList) := by
          show _ = _
          rw [← hr2.out]; exact (takeC_no hc).1
        obtain ⟨x0, x1, x2, y0, y1, y2⟩ := bx_cells hR4.out
        obtain ⟨u0, u1, u2, _, _, _⟩ := bx_cells hQ4.out
        go_wp2_with fail
        refine ret_query rfl (bx_store3 hR4.out _ _ _) rfl rfl ?_
        rw [hE.out, HT.out]
        exact ⟨k2, _, rfl, ⟨kd, none, 0, 0, a3, n + 1, c3, rfl⟩, by omega, b4, by show (ps g tag d (List.drop j s.data.toList)).2 = _; rw [hr.out, hk2.out], pa_kp hP2.out (kp_store3 w4 _ _ _ _) (by simp; omega), K4.out.trans (kp_store3 w4 _ _ _ _) (fun x hx => by simp at hx; subst hx; exact .inr (Nat.le_refl _))⟩
      · have HT := hide (sev_on hsg.out hb (by rw [hr.out]; exact hc))
        have hpos := takeC_pos hc hr2.out b2 b4
        go_wp2_with fail
        go_roundg g
        case measure => omega
        case rel => exact ⟨k2, n + 1, _, _, by omega, by omega, b4, by omega, by omega, by show _ = _; rw [hE.out, HT.out, hr.out, hr2.out], hP2, hR4, hQ4, hO4, K4, hsz4⟩

theorem one_box (s : ByteArray) (k B : Nat) (w : World) (hp : Pa w B s k) : ∃ W, w.alloc (.cells nilQ 139) = W ∧ Pa W B s k ∧ Bx W w.heap.size 0 (.slice none 0 0) (.slice none 0 0) ∧ Kp [] w W ∧ B < w.heap.size :=
  ⟨_, rfl, pa_kp hp ((Kp.refl [] w).alloc _) (by simp), heap_alloc_new w _, (Kp.refl [] w).alloc _, World.block_lt_of_cell? w _ hp.1⟩

set_option maxHeartbeats 400000 in
set_option maxRecDepth 100000 in
theorem all_of (f : Nat) (ih : ∀ g, g < f → CD 378 0 g) : CD 317 1 f := by
  intro s k B d w hs hk hf hd hp
  replace hp := hide hp
  replace ih := hide ih
  go_enter Tryz.func317, Tryz.ntmps317
  go_wp2_with fail
  obtain ⟨W, hW, pW, r0, kW, hB⟩ := one_box s k B w hp.out
  clear hp
  rw [hW]
  clear hW
  have h := several_299 0 f 38 4 (.inl ⟨rfl, rfl⟩) (by omega) ih.out s k B d W hs hk (by omega) hd pW
  rw [show ((UInt8.toNat 38 : Nat) : Int) = 38 from rfl] at h
  refine h.mono ?_
  clear h
  rintro e w1 ⟨k1, v, rfl, ⟨kd1, a1, n1, c1, a2, n2, c2, rfl⟩, b1, b2, hr, hP1, hk1⟩
  have r1 : Bx w1 w.heap.size 0 (.slice none 0 0) (.slice none 0 0) := hk1.heap r0 (by simp; omega)
  obtain ⟨x0, x1, x2, y0, y1, y2⟩ := bx_cells r1
  have R1 := hide r1
  have K1 := hide ((kW.mono (by simp)).next hk1)
  replace hr := hide hr
  replace hP1 := hide hP1
  clear r1 r0 kW hk1 pW
  go_wp2_with fail
  refine ret_query rfl (bx_store3 R1.out _ _ _) rfl rfl ?_
  exact ⟨k1, _, rfl, ⟨kd1, a1, n1, c1, a2, n2, c2, rfl⟩, b1, b2, hr.out, pa_kp hP1.out (kp_store3 w1 _ _ _ _) (by simp; omega), K1.out.trans (kp_store3 w1 _ _ _ _) (fun x hx => by simp at hx; subst hx; exact .inr (Nat.le_refl _))⟩

set_option maxHeartbeats 400000 in
set_option maxRecDepth 100000 in
theorem query_of (f : Nat) (ih : ∀ g, g < f → CD 317 1 g) : CD 225 2 f := by
  intro s k B d w hs hk hf hd hp
  replace hp := hide hp
  replace ih := hide ih
  go_enter Tryz.func225, Tryz.ntmps225
  go_wp2_with fail
  obtain ⟨W, hW, pW, r0, kW, hB⟩ := one_box s k B w hp.out
  clear hp
  rw [hW]
  clear hW
  have h := several_247 1 f 124 5 (.inr ⟨rfl, rfl⟩) (by omega) ih.out s k B d W hs hk (by omega) hd pW
  rw [show ((UInt8.toNat 124 : Nat) : Int) = 124 from rfl] at h
  refine h.mono ?_
  clear h
  rintro e w1 ⟨k1, v, rfl, ⟨kd1, a1, n1, c1, a2, n2, c2, rfl⟩, b1, b2, hr, hP1, hk1⟩
  have r1 : Bx w1 w.heap.size 0 (.slice none 0 0) (.slice none 0 0) := hk1.heap r0 (by simp; omega)
  obtain ⟨x0, x1, x2, y0, y1, y2⟩ := bx_cells r1
  have R1 := hide r1
  have K1 := hide ((kW.mono (by simp)).next hk1)
  replace hr := hide hr
  replace hP1 := hide hP1
  clear r1 r0 kW hk1 pW
  go_wp2_with fail
  refine ret_query rfl (bx_store3 R1.out _ _ _) rfl rfl ?_
  exact ⟨k1, _, rfl, ⟨kd1, a1, n1, c1, a2, n2, c2, rfl⟩, b1, b2, hr.out, pa_kp hP1.out (kp_store3 w1 _ _ _ _) (by simp; omega), K1.out.trans (kp_store3 w1 _ _ _ _) (fun x hx => by simp at hx; subst hx; exact .inr (Nat.le_refl _))⟩
end Go.Proofs.YtpdoacfiiledcaaGreatDoor

namespace Go.Proofs.YtpdoacfiiledcaaGreatDoor
open Go.RowKit ChkM
open Pak (Kp)
set_option linter.unusedVariables false

theorem part_bang {f d : Nat} {l : List UInt8} (hd : d < 5) (h : (takeC 33 l).1 = true) : ps (f + 1) 0 d l = ps f 0 (d + 1) (takeC 33 l).2 := by rw [ps, if_pos ⟨hd, h⟩]
theorem part_open {f d : Nat} {l : List UInt8} (hd : d < 5) (h : (takeC 33 l).1 = false) (h2 : (takeC 40 l).1 = true) :
    ps (f + 1) 0 d l = if (ps f 2 (d + 1) (takeC 40 l).2).1 then takeC 41 (ps f 2 (d + 1) (takeC 40 l).2).2 else (false, (ps f 2 (d + 1) (takeC 40 l).2).2) := by
  rw [ps, if_neg (by simp [h]), if_pos ⟨hd, h2⟩]
theorem part_low {f d : Nat} {l : List UInt8} (h : d < 5 → (takeC 33 l).1 = false) (h2 : d < 5 → (takeC 40 l).1 = false) :
    ps (f + 1) 0 d l = if (takeC 34 l).1 then phraseP (l.length + 1) (takeC 34 l).2 else termP l := by
  rw [ps, if_neg, if_neg]
  · rintro ⟨a, b⟩; rw [h2 a] at b; simp at b
  · rintro ⟨a, b⟩; rw [h a] at b; simp at b
theorem takeC_same {c : UInt8} {s : ByteArray} {k k2 : Nat} (h : (takeC c (s.data.toList.drop k)).1 = false) (h2 : (takeC c (s.data.toList.drop k)).2 = s.data.toList.drop k2) (hk : k ≤ s.size) (hk2 : k2 ≤ s.size) : k2 = k := by
  rw [(takeC_no h).1] at h2
  have := congrArg List.length h2
  rw [List.length_drop, List.length_drop] at this
  have hl : s.data.toList.length = s.size := by simp
  omega
theorem drop_length (s : ByteArray) (k : Nat) : (s.data.toList.drop k).length = s.size - k := by rw [List.length_drop]; simp

/-- Where a part stands: the reader, the answer's box, what has turned. -/
def At (w : World) (B : Nat) (s : ByteArray) (k : Nat) (w' : World) : Prop := Pa w' B s k ∧ Bx w' w.heap.size 0 (.slice none 0 0) (.slice none 0 0) ∧ Kp [B] w w'
theorem At.step {w w1 w2 : World} {B k k2 : Nat} {s : ByteArray} (h : At w B s k w1) (hk : Kp [B] w1 w2) (hp : Pa w2 B s k2) (hB : B < w.heap.size) : At w B s k2 w2 :=
  ⟨hp, hk.heap h.2.1 (by simp; omega), h.2.2.next hk⟩
theorem At.past {w w1 : World} {B k : Nat} {s : ByteArray} (h : At w B s k w1) (o : Obj) : At w B s k (w1.alloc o) :=
  ⟨pa_kp h.1 ((Kp.refl [] w1).alloc o) (by simp), bx_past h.2.1 o, h.2.2.alloc o⟩
theorem At.drew {w w1 : World} {B k : Nat} {s : ByteArray} (h : At w B s k w1) : At w B s k w1.drew := ⟨h.1, h.2.1, kp_drew h.2.2⟩

theorem bx_cells_past2 {w : World} {Q : Nat} {kd : Int} {wv pv : Value} (h : Bx w Q kd wv pv) :
    (∀ o o', ((w.alloc o).alloc o').cell? ⟨Q, 0, none⟩ = some (.int .i64 kd)) ∧ (∀ o o', ((w.alloc o).alloc o').cell? ⟨Q, 1, none⟩ = some wv) ∧ (∀ o o', ((w.alloc o).alloc o').cell? ⟨Q, 2, none⟩ = some pv) ∧ (∀ o o', ((w.alloc o).alloc o').frozen? ⟨Q, 0, none⟩ = false) ∧ (∀ o o', ((w.alloc o).alloc o').frozen? ⟨Q, 1, none⟩ = false) ∧ (∀ o o', ((w.alloc o).alloc o').frozen? ⟨Q, 2, none⟩ = false) :=
  ⟨fun o o' => (bx_cells (bx_past (bx_past h o) o')).1, fun o o' => (bx_cells (bx_past (bx_past h o) o')).2.1, fun o o' => (bx_cells (bx_past (bx_past h o) o')).2.2.1, fun o o' => (bx_cells (bx_past (bx_past h o) o')).2.2.2.1, fun o o' => (bx_cells (bx_past (bx_past h o) o')).2.2.2.2.1, fun o o' => (bx_cells (bx_past (bx_past h o) o')).2.2.2.2.2⟩

set_option maxHeartbeats 2000000 in
set_option maxRecDepth 100000 in
theorem part_of (f : Nat) (ihP : CD 378 0 f) (ihQ : CD 225 2 f) : CD 378 0 (f + 1) := by
  intro s k B d w hs hk hf hd hp
  have hlen := hide (drop_length s k)
  replace hp := hide hp
  replace ihP := hide ihP
  replace ihQ := hide ihQ
  by_cases h5 : d < 5
  · go_enter Tryz.func378, Tryz.ntmps378
    go_wp2_with fail
    obtain ⟨W, hW, pW, r0, kW, hB⟩ := one_box s k B w hp.out
    have hA := hide (show At w B s k W from ⟨pW, r0, kW.mono (by simp)⟩)
    rw [hW]
    clear hp hW pW r0 kW
    refine (take_num _ 33 rfl s k B W hs hk hA.out.1).mono ?_
    rintro e w1 ⟨k1, rfl, a1, a2, hr1, hP1, hg1⟩
    have hA1 := hide (hA.out.step (kp_grown hg1) hP1 hB)
    replace hr1 := hide hr1
    clear hA hP1 hg1
    cases hb : (takeC 33 (List.drop k s.data.toList)).1
    · have e1 := takeC_same hb hr1.out hk a2
      subst e1
      clear hr1 a1 a2
      go_wp2_with fail
      refine (take_num _ 40 rfl s k1 B w1 hs hk hA1.out.1).mono ?_
      rintro e w2 ⟨k2, rfl, b1, b2, hr2, hP2, hg2⟩
      have hA2 := hide (hA1.out.step (kp_grown hg2) hP2 hB)
      replace hr2 := hide hr2
      clear hA1 hP2 hg2
      cases hc : (takeC 40 (List.drop k1 s.data.toList)).1
      · have e2 := takeC_same hc hr2.out hk b2
        subst e2
        clear hr2 b1 b2
        have HT := hide (part_low (f := f) (d := d) (l := List.drop k2 s.data.toList) (fun _ => hb) (fun _ => hc))
        clear hb hc
        go_wp2_with fail
        refine (take_num _ 34 rfl s k2 B w2 hs hk hA2.out.1).mono ?_
        rintro e w3 ⟨k3, rfl, c1, c2, hr3, hP3, hg3⟩
        have hA3 := hide (hA2.out.step (kp_grown hg3) hP3 hB)
        replace hr3 := hide hr3
        clear hA2 hP3 hg3
        cases hq : (takeC 34 (List.drop k2 s.data.toList)).1
        · have e3 := takeC_same hq hr3.out hk c2
          subst e3
          have HT2 : Hid (ps (f + 1) 0 d (List.drop k3 s.data.toList) = termP (List.drop k3 s.data.toList)) := by
            show _ = _
            rw [HT.out, hq]; rfl
          clear HT hq
          go_wp2_with fail
          refine (term_any s k3 B _ hs hk hA3.out.1).mono ?_
          rintro e w4 ⟨k4, v, rfl, ⟨kd1, a1, n1, c1', a2', n2, c2', rfl⟩, d1, d2, hr4, hP4, hk4⟩
          have hA4 := hide (hA3.out.step hk4 hP4 hB)
          replace hr4 := hide hr4
          obtain ⟨x0, x1, x2, y0, y1, y2⟩ := bx_cells hA4.out.2.1
          clear hA3 hP4 hk4
          go_wp2_with fail
          refine ret_query rfl (bx_store3 hA4.out.2.1 _ _ _) rfl rfl ?_
          rw [HT2.out]
          exact ⟨k4, _, rfl, ⟨kd1, a1, n1, c1', a2', n2, c2', rfl⟩, by omega, d2, hr4.out, pa_kp hA4.out.1 (kp_store3 _ _ _ _ _) (by simp; omega), hA4.out.2.2.trans (kp_store3 _ _ _ _ _) (fun x hx => by simp at hx; subst hx; exact .inr (Nat.le_refl _))⟩
        · have HT2 : Hid (ps (f + 1) 0 d (List.drop k2 s.data.toList) = phraseP (s.size - k2 + 1) (List.drop k3 s.data.toList)) := by
            show _ = _
            rw [HT.out, hq, if_pos rfl, hr3.out, hlen.out]
          have hpos : k2 + 1 ≤ k3 := Nat.le_of_eq (takeC_pos hq hr3.out hk c2).symm
          clear HT hq
          go_wp2_with fail
          refine (phrase_any s k3 B (s.size - k2 + 1) _ hs c2 (by omega) hA3.out.1).mono ?_
          rintro e w4 ⟨k4, v, rfl, ⟨kd1, a1, n1, c1', a2', n2, c2', rfl⟩, d1, d2, hr4, hP4, hk4⟩
          have hA4 := hide (hA3.out.step hk4 hP4 hB)
          replace hr4 := hide hr4
          obtain ⟨x0, x1, x2, y0, y1, y2⟩ := bx_cells hA4.out.2.1
          clear hA3 hP4 hk4
          go_wp2_with fail
          refine ret_query rfl (bx_store3 hA4.out.2.1 _ _ _) rfl rfl ?_
          rw [HT2.out]
          exact ⟨k4, _, rfl, ⟨kd1, a1, n1, c1', a2', n2, c2', rfl⟩, by omega, d2, hr4.out, pa_kp hA4.out.1 (kp_store3 _ _ _ _ _) (by simp; omega), hA4.out.2.2.trans (kp_store3 _ _ _ _ _) (fun x hx => by simp at hx; subst hx; exact .inr (Nat.le_refl _))⟩
      · have hpos : k1 + 1 ≤ k2 := Nat.le_of_eq (takeC_pos hc hr2.out hk b2).symm
        have HT : Hid (ps (f + 1) 0 d (List.drop k1 s.data.toList) = if (ps f 2 (d + 1) (List.drop k2 s.data.toList)).1 then takeC 41 (ps f 2 (d + 1) (List.drop k2 s.data.toList)).2 else (false, (ps f 2 (d + 1) (List.drop k2 s.data.toList)).2)) := by
          show _ = _
          rw [part_open h5 hb hc, hr2.out]
        clear hb hc
        go_wp2_with fail
        rw [show ((d : Int) + 1) = ((d + 1 : Nat) : Int) by omega]
        refine (ihQ.out s k2 B (d + 1) _ hs b2 (by omega) (by omega) hA2.out.1).mono ?_
        rintro e w3 ⟨k3, v, rfl, ⟨kd1, a1, n1, c1', a2', n2, c2', rfl⟩, c1, c2, hr3, hP3, hk3⟩
        have hA3 := hide (hA2.out.step hk3 hP3 hB)
        replace hr3 := hide hr3
        clear hA2 hP3 hk3
        have hlt3 : w.heap.size < w3.heap.size := (Array.getElem?_eq_some_iff.1 hA3.out.2.1).1
        obtain ⟨x0, x1, x2, y0, y1, y2⟩ := bx_cells hA3.out.2.1
        obtain ⟨x0', x1', x2', y0', y1', y2'⟩ := bx_cells_past hA3.out.2.1
        cases hq : (ps f 2 (d + 1) (List.drop k2 s.data.toList)).1
        · have HT2 : Hid (ps (f + 1) 0 d (List.drop k1 s.data.toList) = (false, (ps f 2 (d + 1) (List.drop k2 s.data.toList)).2)) := by
            show _ = _
            rw [HT.out, hq]; rfl
          clear HT
          go_wp2_with fail
          obtain ⟨W4, hW4⟩ : ∃ W4, w3.alloc (.cells #[.int .i64 kd1, .slice a1 n1 c1', .slice a2' n2 c2'] 139) = W4 := ⟨_, rfl⟩
          have hA4 : Hid (At w B s k3 W4) := by show At _ _ _ _ _; rw [← hW4]; exact hA3.out.past _
          have bq : Bx W4 w3.heap.size kd1 (.slice a1 n1 c1') (.slice a2' n2 c2') := by rw [← hW4]; exact heap_alloc_new w3 _
          rw [hW4]
          clear hW4 x0 x1 x2 y0 y1 y2 x0' x1' x2' y0' y1' y2' hA3
          obtain ⟨x0, x1, x2, y0, y1, y2⟩ := bx_cells hA4.out.2.1
          obtain ⟨u0, u1, u2, _, _, _⟩ := bx_cells bq
          have HB := hide bq
          clear bq
          go_region
          all_goals
            go_wp2_with fail
            refine ret_query rfl (bx_store3 hA4.out.2.1 _ _ _) rfl rfl ?_
            rw [HT2.out]
            exact ⟨k3, _, rfl, ⟨kd1, a1, n1, c1', a2', n2, c2', rfl⟩, by omega, c2, hr3.out, pa_kp hA4.out.1 (kp_drew (kp_store3 W4 _ _ _ _)) (by simp; omega), hA4.out.2.2.trans (kp_drew (kp_store3 W4 _ _ _ _)) (fun x hx => by simp at hx; subst hx; exact .inr (Nat.le_refl _))⟩
        · have HT2 : Hid (ps (f + 1) 0 d (List.drop k1 s.data.toList) = takeC 41 (List.drop k3 s.data.toList)) := by
            show _ = _
            rw [HT.out, hq, if_pos rfl, hr3.out]
          clear HT
          go_wp2_with fail
          obtain ⟨W4, hW4⟩ : ∃ W4, w3.alloc (.cells #[.int .i64 kd1, .slice a1 n1 c1', .slice a2' n2 c2'] 139) = W4 := ⟨_, rfl⟩
          have hA4 : Hid (At w B s k3 W4) := by show At _ _ _ _ _; rw [← hW4]; exact hA3.out.past _
          have bq : Bx W4 w3.heap.size kd1 (.slice a1 n1 c1') (.slice a2' n2 c2') := by rw [← hW4]; exact heap_alloc_new w3 _
          rw [hW4]
          clear hW4 x0 x1 x2 y0 y1 y2 x0' x1' x2' y0' y1' y2' hA3
          obtain ⟨x0, x1, x2, y0, y1, y2⟩ := bx_cells hA4.out.2.1
          obtain ⟨u0, u1, u2, _, _, _⟩ := bx_cells bq
          have HB := hide bq
          clear bq
          have hne3 : ¬ w.heap.size = w3.heap.size := by omega
          have hne3' : ¬ w3.heap.size = w.heap.size := by omega
          go_region_held3 (fun w' => w'.cell? ⟨w3.heap.size, 0, none⟩ = some (.int .i64 kd1) ∧ w'.cell? ⟨w3.heap.size, 1, none⟩ = some (.slice a1 n1 c1') ∧ w'.cell? ⟨w3.heap.size, 2, none⟩ = some (.slice a2' n2 c2')) (first | go_keep | exact ⟨z0, z1, z2⟩) ((first | (go_at_call 377; refine (take_num 41 41 rfl s k3 B W4.drew hs c2 hA4.out.1).mono ?_; rintro e w5 ⟨k5, rfl, f1, f2, hr5, hP5, hg5⟩; have kg5 := kp_grown hg5; have hA5 := hA4.out.drew.step kg5 hP5 hB; obtain ⟨z0, z1, z2, _, _, _⟩ := bx_cells (show Bx w5 w3.heap.size kd1 (.slice a1 n1 c1') (.slice a2' n2 c2') from kg5.heap HB.out (by simp; omega)); obtain ⟨q0, q1, q2, p0, p1, p2⟩ := bx_cells hA5.2.1)))
          all_goals
            go_wp2_with fail
            refine ret_query rfl (bx_store3 hA5.2.1 _ _ _) rfl rfl ?_
            rw [HT2.out]
            exact ⟨k5, _, rfl, ⟨kd1, a1, n1, c1', a2', n2, c2', rfl⟩, by omega, f2, hr5, pa_kp hA5.1 (kp_store3 w5 _ _ _ _) (by simp; omega), hA5.2.2.trans (kp_store3 w5 _ _ _ _) (fun x hx => by simp at hx; subst hx; exact .inr (Nat.le_refl _))⟩
    · have hpos : k + 1 ≤ k1 := Nat.le_of_eq (takeC_pos hb hr1.out hk a2).symm
      have HT : Hid (ps (f + 1) 0 d (List.drop k s.data.toList) = ps f 0 (d + 1) (List.drop k1 s.data.toList)) := by
        show _ = _
        rw [part_bang h5 hb, hr1.out]
      clear hb
      go_wp2_with fail
      rw [show ((d : Int) + 1) = ((d + 1 : Nat) : Int) by omega]
      refine (ihP.out s k1 B (d + 1) _ hs a2 (by omega) (by omega) hA1.out.1).mono ?_
      rintro e w3 ⟨k3, v, rfl, ⟨kd1, a1, n1, c1', a2', n2, c2', rfl⟩, c1, c2, hr3, hP3, hk3⟩
      have hA3 := hide (hA1.out.step hk3 hP3 hB)
      replace hr3 := hide hr3
      clear hA1 hP3 hk3
      have hlt3 : w.heap.size < w3.heap.size := (Array.getElem?_eq_some_iff.1 hA3.out.2.1).1
      obtain ⟨x0, x1, x2, y0, y1, y2⟩ := bx_cells hA3.out.2.1
      obtain ⟨X0, X1, X2, Y0, Y1, Y2⟩ := bx_cells_past2 hA3.out.2.1
      go_wp2_with fail
      refine ret_query rfl (bx_past (bx_past (bx_store3 hA3.out.2.1 _ _ _) _) _) rfl rfl ?_
      rw [HT.out]
      exact ⟨k3, _, rfl, ⟨3, none, 0, 0, _, 1, 1, rfl⟩, by omega, c2, hr3.out, pa_kp hA3.out.1 (((kp_store3 w3 _ _ _ _).alloc _).alloc _) (by simp; omega), hA3.out.2.2.trans (((kp_store3 w3 _ _ _ _).alloc _).alloc _) (fun x hx => by simp at hx; subst hx; exact .inr (Nat.le_refl _))⟩
  · have h5' : decide ((d : Int) < 5) = false := by simp; omega
    have HT := hide (part_low (f := f) (d := d) (l := List.drop k s.data.toList) (fun h => absurd h h5) (fun h => absurd h h5))
    go_enter Tryz.func378, Tryz.ntmps378
    go_wp2_with fail
    obtain ⟨W, hW, pW, r0, kW, hB⟩ := one_box s k B w hp.out
    have hA := hide (show At w B s k W from ⟨pW, r0, kW.mono (by simp)⟩)
    rw [hW]
    clear hp hW pW r0 kW
    refine (take_num _ 34 rfl s k B W hs hk hA.out.1).mono ?_
    rintro e w3 ⟨k3, rfl, c1, c2, hr3, hP3, hg3⟩
    have hA3 := hide (hA.out.step (kp_grown hg3) hP3 hB)
    replace hr3 := hide hr3
    clear hA hP3 hg3
    cases hq : (takeC 34 (List.drop k s.data.toList)).1
    · have e3 := takeC_same hq hr3.out hk c2
      subst e3
      have HT2 : Hid (ps (f + 1) 0 d (List.drop k3 s.data.toList) = termP (List.drop k3 s.data.toList)) := by
        show _ = _
        rw [HT.out, hq]; rfl
      clear HT hq
      go_wp2_with fail
      refine (term_any s k3 B _ hs hk hA3.out.1).mono ?_
      rintro e w4 ⟨k4, v, rfl, ⟨kd1, a1, n1, c1', a2', n2, c2', rfl⟩, d1, d2, hr4, hP4, hk4⟩
      have hA4 := hide (hA3.out.step hk4 hP4 hB)
      replace hr4 := hide hr4
      obtain ⟨x0, x1, x2, y0, y1, y2⟩ := bx_cells hA4.out.2.1
      clear hA3 hP4 hk4
      go_wp2_with fail
      refine ret_query rfl (bx_store3 hA4.out.2.1 _ _ _) rfl rfl ?_
      rw [HT2.out]
      exact ⟨k4, _, rfl, ⟨kd1, a1, n1, c1', a2', n2, c2', rfl⟩, by omega, d2, hr4.out, pa_kp hA4.out.1 (kp_store3 _ _ _ _ _) (by simp; omega), hA4.out.2.2.trans (kp_store3 _ _ _ _ _) (fun x hx => by simp at hx; subst hx; exact .inr (Nat.le_refl _))⟩
    · have HT2 : Hid (ps (f + 1) 0 d (List.drop k s.data.toList) = phraseP (s.size - k + 1) (List.drop k3 s.data.toList)) := by
        show _ = _
        rw [HT.out, hq, if_pos rfl, hr3.out, hlen.out]
      have hpos : k + 1 ≤ k3 := Nat.le_of_eq (takeC_pos hq hr3.out hk c2).symm
      clear HT hq
      go_wp2_with fail
      refine (phrase_any s k3 B (s.size - k + 1) _ hs c2 (by omega) hA3.out.1).mono ?_
      rintro e w4 ⟨k4, v, rfl, ⟨kd1, a1, n1, c1', a2', n2, c2', rfl⟩, d1, d2, hr4, hP4, hk4⟩
      have hA4 := hide (hA3.out.step hk4 hP4 hB)
      replace hr4 := hide hr4
      obtain ⟨x0, x1, x2, y0, y1, y2⟩ := bx_cells hA4.out.2.1
      clear hA3 hP4 hk4
      go_wp2_with fail
      refine ret_query rfl (bx_store3 hA4.out.2.1 _ _ _) rfl rfl ?_
      rw [HT2.out]
      exact ⟨k4, _, rfl, ⟨kd1, a1, n1, c1', a2', n2, c2', rfl⟩, by omega, d2, hr4.out, pa_kp hA4.out.1 (kp_store3 _ _ _ _ _) (by simp; omega), hA4.out.2.2.trans (kp_store3 _ _ _ _ _) (fun x hx => by simp at hx; subst hx; exact .inr (Nat.le_refl _))⟩

theorem part_zero (f : Nat) (h : f = 0) : CD 378 0 f := by
  intro s k B d w hs hk hf hd hp; omega

theorem descent : ∀ f, (∀ g, g ≤ f → CD 378 0 g) ∧ (∀ g, g ≤ f → CD 317 1 g) ∧ (∀ g, g ≤ f → CD 225 2 g)
  | 0 => by
    have hP : ∀ g, g ≤ 0 → CD 378 0 g := fun g hg => part_zero g (by omega)
    have hA : ∀ g, g ≤ 0 → CD 317 1 g := fun g hg => all_of g (fun j hj => by omega)
    exact ⟨hP, hA, fun g hg => query_of g (fun j hj => by omega)⟩
  | f + 1 => by
    obtain ⟨hP, hA, hQ⟩ := descent f
    have hP' : ∀ g, g ≤ f + 1 → CD 378 0 g := fun g hg => by
      by_cases e : g = f + 1
      · subst e; exact part_of f (hP f (by omega)) (hQ f (by omega))
      · exact hP g (by omega)
    have hA' : ∀ g, g ≤ f + 1 → CD 317 1 g := fun g hg => all_of g (fun j hj => hP' j (by omega))
    exact ⟨hP', hA', fun g hg => query_of g (fun j hj => hA' j (by omega))⟩
theorem query_any (f : Nat) : CD 225 2 f := (descent f).2.2 f (Nat.le_refl _)
end Go.Proofs.YtpdoacfiiledcaaGreatDoor

namespace Go.Proofs.YtpdoacfiiledcaaGreatDoor
open Go.RowKit ChkM
open Pak (Kp)
set_option linter.unusedVariables false

theorem query_zero (s : ByteArray) (B : Nat) (w : World) (hs : s.size ≤ 1000) (hp : Pa w B s 0) :
    Calls Tryz.prog 225 #[.pointer (some ⟨B, 0, none⟩), .int .i64 0] w (RQ (psTop s.data.toList) B s 0 w) := by
  have h := query_any (3 * s.size + 3) s 0 B 0 w hs (Nat.zero_le _) (by omega) (by omega) hp
  have e : ps (3 * s.size + 3) 2 0 (s.data.toList.drop 0) = psTop s.data.toList := by
    unfold psTop
    rw [show s.data.toList.length = s.size by simp]; rfl
  rw [e, show ((0 : Nat) : Int) = 0 from rfl] at h
  exact h
theorem rest_nil {s : ByteArray} {r : List UInt8} {k : Nat} (h : r = s.data.toList.drop k) (hk : k ≤ s.size) : (r = [] ↔ k = s.size) ∧ s.size - r.length = k := by
  have hl : r.length = s.size - k := by rw [h, List.length_drop]; simp
  refine ⟨⟨fun e => ?_, fun e => ?_⟩, by omega⟩
  · rw [e] at hl; simp at hl; omega
  · exact List.length_eq_zero_iff.1 (by omega)
theorem results_cell_tmp2 {fn : Func} {p u v : Tmp} {ty : TypeId} (h : fn.results = #[.cell p ty, .tmp u, .tmp v]) (tmps : Array Value) (P : Program) (w : World) :
    (results fn tmps).run P w =
      ((asAddr (tmps.getD p undef)).run P w).andThen fun a w₁ => ((loadVar ty a).run P w₁).andThen fun x w₂ => .ok (.tuple #[x, tmps.getD u undef, tmps.getD v undef]) w₂ := by
  simp only [results, h]
  simp [Sem.run_bind, Result.andThen]
theorem ret_query3 {fn : Func} {R : Ending → World → Prop} {a : Act} {w : World} {p u u' R0 : Nat} {kd : Int} {wv pv : Value} (hres : fn.results = #[.cell p 139, .tmp u, .tmp u'])
    (hb : Bx w R0 kd wv pv) (hp : a.tmps.getD p undef = .pointer (some ⟨R0, 0, none⟩)) (hd : a.defers = []) (h : R (.returned (.tuple #[.agg #[.int .i64 kd, wv, pv], a.tmps.getD u undef, a.tmps.getD u' undef])) w) : bodyPost Tryz.prog fn R .ret a w := by
  refine bodyPost_ret (v := .tuple #[.agg #[.int .i64 kd, wv, pv], a.tmps.getD u undef, a.tmps.getD u' undef]) ?_ hd h
  rw [results_cell_tmp2 hres, hp]
  simp [asAddr, Result.andThen, load_query w R0 kd wv pv hb]

theorem read_boxes (s : ByteArray) (w : World) : ∃ W, (w.alloc (.cells nilQ 139)).alloc (.cells #[.string s, .int .i64 0] 329) = W ∧ Pa W (w.heap.size + 1) s 0 ∧ Bx W w.heap.size 0 (.slice none 0 0) (.slice none 0 0) ∧ Kp [] w W := by
  refine ⟨_, rfl, ?_, bx_past (heap_alloc_new w _) _, ((Kp.refl [] w).alloc _).alloc _⟩
  have e : w.heap.size + 1 = (w.alloc (.cells nilQ 139)).heap.size := by simp
  rw [e]
  exact ⟨by rw [World.cell?_alloc_at _ _ _ _ rfl]; rfl, by rw [World.cell?_alloc_at _ _ _ _ rfl]; rfl, World.frozen?_alloc_at _ _ _ _ rfl⟩

/-- What Read of queries gives. -/
def ReadPost (s : ByteArray) (w : World) (e : Ending) (w' : World) : Prop :=
  ∃ (v : Value) (b : Bool) (k : Nat), e = .returned (.tuple #[v, .bool b, .int .i64 k]) ∧ Qv v ∧ Hid (b = decide ((psTop s.data.toList).1 = true ∧ (psTop s.data.toList).2 = [])) ∧ Hid (k = s.size - (psTop s.data.toList).2.length) ∧ k ≤ s.size ∧ Kp [] w w'

set_option maxHeartbeats 1000000 in
set_option maxRecDepth 100000 in
theorem readq_any (s : ByteArray) (w : World) (hs : s.size ≤ 1000) : Calls Tryz.prog 129 #[.string s] w (ReadPost s w) := by
  go_enter Tryz.func129, Tryz.ntmps129
  go_wp2_with fail
  obtain ⟨W, hW, pW, r0, kW⟩ := read_boxes s w
  rw [hW]
  clear hW
  refine (query_zero s (w.heap.size + 1) W hs pW).mono ?_
  rintro e w1 ⟨k, v, rfl, ⟨kd1, a1, n1, c1, a2, n2, c2, rfl⟩, h1, h2, hr, hP, hk1⟩
  have r1 : Bx w1 w.heap.size 0 (.slice none 0 0) (.slice none 0 0) := hk1.heap r0 (by simp)
  have hnil := hide (rest_nil hr h2)
  have K1 : Hid (Kp [] w w1) := kW.trans hk1 (fun x hx => by simp at hx; subst hx; exact .inr (by omega))
  obtain ⟨ok, hok⟩ : ∃ ok, (psTop s.data.toList).1 = ok := ⟨_, rfl⟩
  rw [hok]
  have Hok := hide hok
  have HR := hide r1
  have HP := hide hP
  have hlt : w.heap.size < w1.heap.size := (Array.getElem?_eq_some_iff.1 r1).1
  clear hr hk1 pW r0 kW hok r1 hP
  go_wp2_with fail
  obtain ⟨W4, hW4⟩ : ∃ W4, w1.alloc (.cells #[.int .i64 kd1, .slice a1 n1 c1, .slice a2 n2 c2] 139) = W4 := ⟨_, rfl⟩
  have K4 : Hid (Kp [] w W4) := by show Kp _ _ _; rw [← hW4]; exact K1.out.alloc _
  have r4 : Bx W4 w.heap.size 0 (.slice none 0 0) (.slice none 0 0) := by rw [← hW4]; exact bx_past HR.out _
  have bq : Bx W4 w1.heap.size kd1 (.slice a1 n1 c1) (.slice a2 n2 c2) := by rw [← hW4]; exact heap_alloc_new w1 _
  have p4 : W4.cell? ⟨w.heap.size + 1, 1, none⟩ = some (.int .i64 (k : Int)) := by rw [← hW4]; exact ((Kp.refl [] w1).alloc _).cellv HP.out.2.1 (by simp)
  rw [hW4]
  clear hW4 HR HP K1
  obtain ⟨x0, x1, x2, y0, y1, y2⟩ := bx_cells r4
  obtain ⟨u0, u1, u2, _, _, _⟩ := bx_cells bq
  have HR4 := hide r4
  clear r4 bq
  have hne3 : ¬ w.heap.size = w1.heap.size := by omega
  have hne3' : ¬ w1.heap.size = w.heap.size := by omega
  cases ok
  · go_region
    all_goals
      go_wp2_with fail
      refine ret_query3 rfl (bx_store3 HR4.out _ _ _) rfl rfl ?_
      exact ⟨_, false, k, rfl, ⟨kd1, a1, n1, c1, a2, n2, c2, rfl⟩, by show _ = _; simp [Hok.out], by show _ = _; rw [hnil.out.2], h2, K4.out.trans (kp_drew (kp_store3 W4 _ _ _ _)) (fun x hx => by simp at hx; subst hx; exact .inr (Nat.le_refl _))⟩
  · by_cases he : k = s.size
    · have hq : ((k : Int) == (s.size : Int)) = true := by rw [beq_iff_eq]; omega
      have hfin : Hid ((psTop s.data.toList).2 = []) := hnil.out.1.2 he
      clear he
      go_region
      all_goals
        go_wp2_with fail
        refine ret_query3 rfl (bx_store3 HR4.out _ _ _) rfl rfl ?_
        exact ⟨_, true, k, rfl, ⟨kd1, a1, n1, c1, a2, n2, c2, rfl⟩, by show _ = _; simp [Hok.out, hfin.out], by show _ = _; rw [hnil.out.2], h2, K4.out.trans (kp_drew (kp_store3 W4 _ _ _ _)) (fun x hx => by simp at hx; subst hx; exact .inr (Nat.le_refl _))⟩
    · have hq : ((k : Int) == (s.size : Int)) = false := by rw [beq_eq_false_iff_ne]; omega
      have hfin : Hid (¬ (psTop s.data.toList).2 = []) := fun h => he (hnil.out.1.1 h)
      clear he
      go_region
      all_goals
        go_wp2_with fail
        refine ret_query3 rfl (bx_store3 HR4.out _ _ _) rfl rfl ?_
        exact ⟨_, false, k, rfl, ⟨kd1, a1, n1, c1, a2, n2, c2, rfl⟩, by show _ = _; simp [Hok.out, hfin.out], by show _ = _; rw [hnil.out.2], h2, K4.out.trans (kp_drew (kp_store3 W4 _ _ _ _)) (fun x hx => by simp at hx; subst hx; exact .inr (Nat.le_refl _))⟩
end Go.Proofs.YtpdoacfiiledcaaGreatDoor

namespace Go.Proofs.YtpdoacfiiledcaaGreatDoor
open Go.RowKit ChkM
open Pak (Kp)
set_option linter.unusedVariables false

/-- What readQuery gives. -/
def AskPost (ans : Int × Nat) (w : World) (e : Ending) (w' : World) : Prop :=
  ∃ v : Value, e = .returned (.tuple #[v, .int .i64 ans.1, .int .i64 (ans.2 : Int)]) ∧ Qv v ∧ Kp [] w w'
/-- The answer of Check to a text of whatever length. -/
def checkAns (s : ByteArray) : Int × Nat := if 60 < s.size then (4, 0) else codeAns s.data.toList

set_option maxHeartbeats 1000000 in
set_option maxRecDepth 100000 in
theorem askq_any (s : ByteArray) (w : World) : Calls Tryz.prog 58 #[.string s] w (AskPost (checkAns s) w) := by
  have hr := heap_alloc_new w (.cells nilQ 139)
  by_cases hl : 60 < s.size
  · have HE : Hid (checkAns s = (4, 0)) := by show _ = _; unfold checkAns; rw [if_pos hl]
    have HR := hide hr
    clear hr
    go_enter Tryz.func58, Tryz.ntmps58
    go_wp2_with fail
    refine ret_query3 (R0 := w.heap.size) rfl (heap_alloc_new w _) rfl rfl ?_
    rw [HE.out]
    exact ⟨_, rfl, ⟨0, none, 0, 0, none, 0, 0, rfl⟩, (Kp.refl [] w).alloc _⟩
  · have HE : Hid (checkAns s = codeAns s.data.toList) := by show _ = _; unfold checkAns; rw [if_neg hl]
    have hls : s.data.toList.length = s.size := by simp
    have HL := hide hls
    have HR := hide hr
    clear hr hls
    go_enter Tryz.func58, Tryz.ntmps58
    go_wp2_with fail
    refine (readq_any s _ (by omega)).mono ?_
    rintro e w1 ⟨v, b, k, rfl, ⟨kd1, a1, n1, c1, a2, n2, c2, rfl⟩, hb, hk, hks, hK⟩
    have r1 : Bx w1 w.heap.size 0 (.slice none 0 0) (.slice none 0 0) := hK.heap HR.out (by simp)
    have K1 : Hid (Kp [] w w1) := ((Kp.refl [] w).alloc _).next hK
    have HR1 := hide r1
    have hlt : w.heap.size < w1.heap.size := (Array.getElem?_eq_some_iff.1 r1).1
    obtain ⟨x0, x1, x2, y0, y1, y2⟩ := bx_cells r1
    obtain ⟨X0, X1, X2, Y0, Y1, Y2⟩ := bx_cells_past r1
    clear r1 hK HR
    cases b
    · have hf : Hid (codeAns s.data.toList = (8, k)) := by
        show _ = _
        unfold codeAns
        have h2 := of_decide_eq_false hb.out.symm
        rw [if_neg h2, HL.out, hk.out]
      clear hb hk
      go_wp2_with fail
      refine ret_query3 rfl (bx_past (bx_store3 HR1.out _ _ _) _) rfl rfl ?_
      rw [HE.out, hf.out]
      exact ⟨_, rfl, ⟨0, none, 0, 0, none, 0, 0, rfl⟩, K1.out.trans ((kp_store3 _ _ _ _ _).alloc _) (fun x hx => by simp at hx; subst hx; exact .inr (Nat.le_refl _))⟩
    · have hf : Hid (codeAns s.data.toList = (0, 0)) := by
        show _ = _
        unfold codeAns
        have h2 := of_decide_eq_true hb.out.symm
        rw [if_pos h2]
      clear hb hk
      go_wp2_with fail
      refine ret_query3 rfl (bx_past (bx_store3 HR1.out _ _ _) _) rfl rfl ?_
      rw [HE.out, hf.out]
      exact ⟨_, rfl, ⟨kd1, a1, n1, c1, a2, n2, c2, rfl⟩, K1.out.trans ((kp_store3 _ _ _ _ _).alloc _) (fun x hx => by simp at hx; subst hx; exact .inr (Nat.le_refl _))⟩

set_option maxHeartbeats 1000000 in
set_option maxRecDepth 100000 in
theorem check_any (s : ByteArray) (w : World) :
    Calls Tryz.prog 75 #[.string s] w fun e w' => e = .returned (.tuple #[.int .i64 (checkAns s).1, .int .i64 ((checkAns s).2 : Int)]) ∧ Below w.heap.size w w' := by
  go_enter Tryz.func75, Tryz.ntmps75
  go_wp2_with fail
  refine (askq_any s _).mono ?_
  rintro e w1 ⟨v, rfl, ⟨kd1, a1, n1, c1, a2, n2, c2, rfl⟩, hK⟩
  have HK := hide hK
  clear hK
  go_wp2_with fail
  go_ret2
  exact ⟨rfl, (HK.out.alloc _).below (Nat.le_refl _) (by simp)⟩
theorem check_long (s : ByteArray) (w : World) (hs : 60 < s.size) :
    Calls Tryz.prog 75 #[.string s] w fun e w' => e = .returned (.tuple #[.int .i64 4, .int .i64 0]) ∧ Below w.heap.size w w' := by
  have h := check_any s w
  rw [show checkAns s = (4, 0) by unfold checkAns; rw [if_pos hs]] at h
  exact h
theorem code_le (l : List UInt8) : (codeAns l).2 ≤ l.length := by
  unfold codeAns
  split
  · exact Nat.zero_le _
  · exact Nat.sub_le _ _
theorem check_ok (s : ByteArray) (w : World) (hs : s.size ≤ 60) :
    Calls Tryz.prog 75 #[.string s] w fun e w' => ∃ (a : Int) (k : Nat), e = .returned (.tuple #[.int .i64 a, .int .i64 k]) ∧ Hid (codeAns s.data.toList = (a, k)) ∧ k ≤ s.size ∧ Below w.heap.size w w' := by
  have h := check_any s w
  rw [show checkAns s = codeAns s.data.toList by unfold checkAns; rw [if_neg (by omega)]] at h
  refine h.mono ?_
  rintro e w' ⟨rfl, hb⟩
  have hl : s.data.toList.length = s.size := by simp
  have := code_le s.data.toList
  exact ⟨_, _, rfl, rfl, by omega, hb⟩
end Go.Proofs.YtpdoacfiiledcaaGreatDoor

namespace Go.Proofs.YtpdoacfiiledcaaGreatDoor
open Go.RowKit ChkM
set_option linter.unusedVariables false

set_option maxHeartbeats 400000 in
theorem isWord_any (c : UInt8) (w : World) :
    Calls Tryz.prog 279 #[.int .u8 c.toNat] w fun e w' => e = .returned (.bool (isSm c)) ∧ w' = w := by
  have hs := hide (isSm_int c)
  by_cases h1 : (97 : Int) ≤ (c.toNat : Int)
  · by_cases h2 : (c.toNat : Int) ≤ 122
    · go_enter Tryz.func279, Tryz.ntmps279
      go_wp2
      go_ret
      exact ⟨ret_bool (by rw [hs.out]; simp [h1, h2]), rfl⟩
    · have h3 : (48 : Int) ≤ (c.toNat : Int) := by omega
      have h4 : ¬ (c.toNat : Int) ≤ 57 := by omega
      go_enter Tryz.func279, Tryz.ntmps279
      go_wp2
      go_ret
      exact ⟨ret_bool (by rw [hs.out]; simp; omega), rfl⟩
  · by_cases h3 : (48 : Int) ≤ (c.toNat : Int)
    · by_cases h4 : (c.toNat : Int) ≤ 57
      · go_enter Tryz.func279, Tryz.ntmps279
        go_wp2
        go_ret
        exact ⟨ret_bool (by rw [hs.out]; simp; omega), rfl⟩
      · go_enter Tryz.func279, Tryz.ntmps279
        go_wp2
        go_ret
        exact ⟨ret_bool (by rw [hs.out]; simp; omega), rfl⟩
    · go_enter Tryz.func279, Tryz.ntmps279
      go_wp2
      go_ret
      exact ⟨ret_bool (by rw [hs.out]; simp; omega), rfl⟩

def opV (l : List Nat) : List Value := l.reverse.map fun (d : Nat) => Value.int .i64 (d : Int)
/-- A station at block S. -/
structure Stn (w : World) (S : Nat) (s : St) (v : Value) : Prop where
  c0 : w.cell? ⟨S, 0, none⟩ = some (.int .i64 s.at_)
  c1 : w.cell? ⟨S, 1, none⟩ = some (.int .i64 s.n)
  c2 : w.cell? ⟨S, 2, none⟩ = some (.int .i64 s.deep)
  c3 : w.cell? ⟨S, 3, none⟩ = some v
  own : w.ownsRow (S + 1) 3 1 v s.op.length (opV s.op)
  f : ∀ j, w.frozen? ⟨S, j, none⟩ = false
  hn : s.n ≤ 1000
  hd : s.deep ≤ 5
  ho : ∀ d ∈ s.op, d ≤ 4
  hl : s.op.length ≤ 1000

theorem cell_ne {w : World} {S i j : Nat} {v : Value} (h : i ≠ j) : (w.setCell ⟨S, i, none⟩ v).cell? ⟨S, j, none⟩ = w.cell? ⟨S, j, none⟩ :=
  World.cell?_setCell_other _ _ _ _ (fun hh => h (congrArg Addr.off hh))
theorem Stn.drewN {w : World} {S : Nat} {s : St} {v : Value} (h : Stn w S s v) (n : Nat) : Stn (w.drewN n) S s v := ⟨h.c0, h.c1, h.c2, h.c3, h.own, h.f, h.hn, h.hd, h.ho, h.hl⟩
theorem Stn.set0 {w : World} {S : Nat} {s : St} {v : Value} (h : Stn w S s v) (j : Nat) : Stn (w.setCell ⟨S, 0, none⟩ (.int .i64 j)) S { s with at_ := j } v :=
  ⟨World.cell?_setCell_same _ _ _ h.c0, by rw [cell_ne (by decide)]; exact h.c1, by rw [cell_ne (by decide)]; exact h.c2, by rw [cell_ne (by decide)]; exact h.c3, ownsRow_setCell_below h.own (by simp) _, fun j => by simpa using h.f j, h.hn, h.hd, h.ho, h.hl⟩
theorem Stn.set1 {w : World} {S : Nat} {s : St} {v : Value} (h : Stn w S s v) (j : Nat) (hj : j ≤ 1000) : Stn (w.setCell ⟨S, 1, none⟩ (.int .i64 j)) S { s with n := j } v :=
  ⟨by rw [cell_ne (by decide)]; exact h.c0, World.cell?_setCell_same _ _ _ h.c1, by rw [cell_ne (by decide)]; exact h.c2, by rw [cell_ne (by decide)]; exact h.c3, ownsRow_setCell_below h.own (by simp) _, fun j => by simpa using h.f j, hj, h.hd, h.ho, h.hl⟩
theorem Stn.set2 {w : World} {S : Nat} {s : St} {v : Value} (h : Stn w S s v) (j : Nat) (hj : j ≤ 5) : Stn (w.setCell ⟨S, 2, none⟩ (.int .i64 j)) S { s with deep := j } v :=
  ⟨by rw [cell_ne (by decide)]; exact h.c0, by rw [cell_ne (by decide)]; exact h.c1, World.cell?_setCell_same _ _ _ h.c2, by rw [cell_ne (by decide)]; exact h.c3, ownsRow_setCell_below h.own (by simp) _, fun j => by simpa using h.f j, h.hn, hj, h.ho, h.hl⟩
theorem Stn.set3 {w : World} {S : Nat} {s : St} {v : Value} (h : Stn w S s v) (v' : Value) (op' : List Nat) (hown : w.ownsRow (S + 1) 3 1 v' op'.length (opV op')) (ho : ∀ d ∈ op', d ≤ 4) (hl : op'.length ≤ 1000) :
    Stn (w.setCell ⟨S, 3, none⟩ v') S { s with op := op' } v' :=
  ⟨by rw [cell_ne (by decide)]; exact h.c0, by rw [cell_ne (by decide)]; exact h.c1, by rw [cell_ne (by decide)]; exact h.c2, World.cell?_setCell_same _ _ _ h.c3, ownsRow_setCell_below hown (by simp) _, fun j => by simpa using h.f j, h.hn, h.hd, ho, hl⟩
theorem Stn.drew {w : World} {S : Nat} {s : St} {v : Value} (h : Stn w S s v) : Stn w.drew S s v := ⟨h.c0, h.c1, h.c2, h.c3, h.own, h.f, h.hn, h.hd, h.ho, h.hl⟩
theorem Stn.below0 {w : World} {S i : Nat} {v : Value} : Below S w (w.setCell ⟨S, i, none⟩ v) := (Below.refl S w).setCell (p := ⟨S, i, none⟩) (Nat.le_refl _) v
theorem bel_drewN (B : Nat) (w : World) (n : Nat) : Below B w (w.drewN n) := ⟨rfl, rfl, rfl, Nat.le_refl _, fun _ _ => rfl⟩
theorem byte_eq (c d : UInt8) (n : Int) (hd : (d.toNat : Int) = n) (h : c = d) : ((c.toNat : Int) == n) = true := by subst h; rw [hd]; simp
theorem byte_ne (c d : UInt8) (n : Int) (hd : (d.toNat : Int) = n) (h : ¬ c = d) : ((c.toNat : Int) == n) = false := by
  rw [beq_eq_false_iff_ne]; intro e; exact h (UInt8.toNat_inj.1 (by omega))

theorem joins_and (s : St) (c : UInt8) (h : c = 38 ∨ c = 124) : joinsA s c = { { s with at_ := 0 } with deep := around s.op } := by unfold joinsA; rw [if_pos h]
theorem joins_shut (s : St) (c : UInt8) (h : c = 41) (ho : s.op ≠ []) : joinsA s c = { { s with at_ := 2 } with op := s.op.tail } := by
  subst h; unfold joinsA; rw [if_neg (by decide), if_pos ⟨rfl, ho⟩]
theorem joins_no (s : St) (c : UInt8) (h : ¬ c = 38) (h2 : ¬ c = 124) (h3 : c = 41 → s.op = []) : joinsA s c = { s with at_ := 4 } := by
  unfold joinsA; rw [if_neg (by simp [h, h2]), if_neg (fun e => e.2 (h3 e.1))]

set_option maxHeartbeats 400000 in
set_option maxRecDepth 100000 in
theorem joins_nil (s : St) (v : Value) (c : UInt8) (S : Nat) (w : World) (h : Stn w S s v) (ho : s.op = []) :
    Calls Tryz.prog 281 #[.pointer (some ⟨S, 0, none⟩), .int .u8 c.toNat] w fun e w' => e = .returned (.tuple #[]) ∧ (∃ v', Stn w' S (joinsA s c) v') ∧ Below S w w' := by
  have hown := h.own
  have hc3 := h.c3
  have hc0 := h.c0
  have hc2 := h.c2
  have f0 := h.f 0
  have f2 := h.f 2
  obtain ⟨a, cap, hv, _⟩ : ∃ a cap, v = .slice a 0 cap ∧ True := by
    rw [ho] at hown
    rcases hown.2 with ⟨rfl, _⟩ | ⟨g, cap, cur, rfl, _⟩
    · exact ⟨_, _, rfl, trivial⟩
    · exact ⟨_, _, rfl, trivial⟩
  rw [hv] at hc3
  clear hown
  replace h := hide h
  replace hv := hide hv
  by_cases h38 : c = 38
  · have b1 := byte_eq c 38 38 rfl h38
    have HJ := hide (joins_and s c (Or.inl h38))
    have HA : Hid (around s.op = 0) := by show _ = _; rw [ho]; rfl
    clear h38 ho
    go_enter Tryz.func281, Tryz.ntmps281
    go_wp2_with fail
    go_end0
    rw [HJ.out, HA.out]
    exact ⟨rfl, ⟨v, (h.out.set0 0).set2 0 (by omega)⟩, Stn.below0.trans Stn.below0⟩
  · have b1 := byte_ne c 38 38 rfl h38
    by_cases h124 : c = 124
    · have b2 := byte_eq c 124 124 rfl h124
      have HJ := hide (joins_and s c (Or.inr h124))
      have HA : Hid (around s.op = 0) := by show _ = _; rw [ho]; rfl
      clear h38 ho h124
      go_enter Tryz.func281, Tryz.ntmps281
      go_wp2_with fail
      go_end0
      rw [HJ.out, HA.out]
      exact ⟨rfl, ⟨v, (h.out.set0 0).set2 0 (by omega)⟩, Stn.below0.trans Stn.below0⟩
    · have b2 := byte_ne c 124 124 rfl h124
      have HJ := hide (joins_no s c h38 h124 (fun _ => ho))
      clear h38 ho h124
      by_cases h41 : c = 41
      · have b3 := byte_eq c 41 41 rfl h41
        clear h41
        go_enter Tryz.func281, Tryz.ntmps281
        go_wp2_with fail
        go_end0
        rw [HJ.out]
        exact ⟨rfl, ⟨v, h.out.set0 4⟩, Stn.below0⟩
      · have b3 := byte_ne c 41 41 rfl h41
        clear h41
        go_enter Tryz.func281, Tryz.ntmps281
        go_wp2_with fail
        go_end0
        rw [HJ.out]
        exact ⟨rfl, ⟨v, h.out.set0 4⟩, Stn.below0⟩

theorem opV_cons (d : Nat) (t : List Nat) : opV (d :: t) = opV t ++ [.int .i64 (d : Int)] := by simp [opV]
theorem opV_length (l : List Nat) : (opV l).length = l.length := by simp [opV]

set_option maxHeartbeats 400000 in
set_option maxRecDepth 100000 in
theorem joins_cons (s : St) (v : Value) (c : UInt8) (S d : Nat) (t : List Nat) (w : World) (h : Stn w S s v) (ho : s.op = d :: t) :
    Calls Tryz.prog 281 #[.pointer (some ⟨S, 0, none⟩), .int .u8 c.toNat] w fun e w' => e = .returned (.tuple #[]) ∧ (∃ v', Stn w' S (joinsA s c) v') ∧ Below S w w' := by
  have hown := h.own
  have hc3 := h.c3
  have hc0 := h.c0
  have hc2 := h.c2
  have f0 := h.f 0
  have f2 := h.f 2
  have f3 := h.f 3
  have hd := h.ho d (by rw [ho]; simp)
  have hlen := h.hl
  obtain ⟨m, hm⟩ : ∃ m, t.length = m := ⟨_, rfl⟩
  rw [ho, List.length_cons, hm, opV_cons] at hown
  rw [ho, List.length_cons, hm] at hlen
  obtain ⟨g, cap, hv⟩ : ∃ g cap, v = .slice (some ⟨g, 0, none⟩) (m + 1) cap := by
    rcases hown.2 with ⟨_, hz⟩ | ⟨g, cap, cur, rfl, _⟩
    · omega
    · exact ⟨_, _, rfl⟩
  rw [hv] at hc3 hown
  have hcap : m + 1 ≤ cap := by
    rcases hown.2 with ⟨_, hz⟩ | ⟨g', cap', cur, hx, _, _, hle, _⟩
    · omega
    · cases hx; exact hle
  have hcell : w.cell? ⟨g, m, none⟩ = some (.int .i64 (d : Int)) := by
    rw [hown.cellAt m (by omega), List.getElem?_append_right (by rw [opV_length]; omega), opV_length, hm]; simp
  have i1 : (0 : Int) ≤ (m : Int) := by omega
  have i2 : (m : Int) < (m : Int) + 1 := by omega
  replace hown := hide hown
  replace h := hide h
  replace hv := hide hv
  replace hm := hide hm
  have HA : Hid (around s.op = d + 1) := by show _ = _; rw [ho]; rfl
  by_cases h38 : c = 38
  · have b1 := byte_eq c 38 38 rfl h38
    have HJ := hide (joins_and s c (Or.inl h38))
    clear h38 ho
    go_enter Tryz.func281, Tryz.ntmps281
    go_wp2_with fail
    go_quiet (fail)
    go_wp2_with fail
    go_end0
    rw [HJ.out, HA.out]
    exact ⟨rfl, ⟨v, ((h.out.drewN nq).set0 0).set2 (d + 1) (by omega)⟩, (bel_drewN S w nq).trans (Stn.below0.trans Stn.below0)⟩
  · have b1 := byte_ne c 38 38 rfl h38
    by_cases h124 : c = 124
    · have b2 := byte_eq c 124 124 rfl h124
      have HJ := hide (joins_and s c (Or.inr h124))
      clear h38 ho h124
      go_enter Tryz.func281, Tryz.ntmps281
      go_wp2_with fail
      go_quiet (fail)
      go_wp2_with fail
      go_end0
      rw [HJ.out, HA.out]
      exact ⟨rfl, ⟨v, ((h.out.drewN nq).set0 0).set2 (d + 1) (by omega)⟩, (bel_drewN S w nq).trans (Stn.below0.trans Stn.below0)⟩
    · have b2 := byte_ne c 124 124 rfl h124
      by_cases h41 : c = 41
      · have b3 := byte_eq c 41 41 rfl h41
        have HJ := hide (joins_shut s c h41 (by rw [ho]; simp))
        have HT : Hid (s.op.tail = t) := by show _ = _; rw [ho]; rfl
        clear h38 h124 h41 ho
        go_enter Tryz.func281, Tryz.ntmps281
        go_wp2_with fail
        go_quiet (fail)
        go_wp2_with fail
        go_region
        go_wp2_with fail
        go_end0
        rw [HJ.out, HT.out]
        have hop : ∀ x ∈ t, x ≤ 4 := fun x hx => h.out.ho x (by
          have := HT.out
          cases hop : s.op with
          | nil => rw [hop] at this; simp at this; rw [this] at hx; simp at hx
          | cons y u => rw [hop] at this; simp at this; rw [this]; simp [hx])
        have hown2 : ((w.drewN nq).setCell ⟨S, 0, none⟩ (.int .i64 2)).ownsRow (S + 1) 3 1 (.slice (some ⟨g, 0, none⟩) m cap) t.length (opV t) := by
          rw [hm.out]
          exact ownsRow_pop (by rw [opV_length, hm.out]; omega) (ownsRow_setCell_below (w := w.drewN nq) hown.out (by simp) _)
        exact ⟨rfl, ⟨_, (((h.out.drewN nq).set0 2).set3 _ t hown2 hop (by rw [hm.out]; omega)).drew⟩, ((bel_drewN S w nq).trans (Stn.below0.trans Stn.below0)).drew⟩
      · have b3 := byte_ne c 41 41 rfl h41
        have HJ := hide (joins_no s c h38 h124 (fun e => absurd e h41))
        clear h38 ho h124 h41
        go_enter Tryz.func281, Tryz.ntmps281
        go_wp2_with fail
        go_quiet (fail)
        go_wp2_with fail
        go_end0
        rw [HJ.out]
        exact ⟨rfl, ⟨v, (h.out.drewN nq).set0 4⟩, (bel_drewN S w nq).trans Stn.below0⟩

theorem joins_any (s : St) (v : Value) (c : UInt8) (S : Nat) (w : World) (h : Stn w S s v) :
    Calls Tryz.prog 281 #[.pointer (some ⟨S, 0, none⟩), .int .u8 c.toNat] w fun e w' => e = .returned (.tuple #[]) ∧ (∃ v', Stn w' S (joinsA s c) v') ∧ Below S w w' := by
  cases ho : s.op with
  | nil => exact joins_nil s v c S w h ho
  | cons d t => exact joins_cons s v c S d t w h ho
end Go.Proofs.YtpdoacfiiledcaaGreatDoor
